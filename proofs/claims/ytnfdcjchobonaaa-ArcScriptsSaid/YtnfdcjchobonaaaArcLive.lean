/-
  law11's live.
-/
import Derived.Test.YtnfdcjchobonaaaArcM
namespace Go.Proofs.Ytnfdcjchobonaaa
open Go.RowKit Go.ChangeShapes Go.WideShapes Go.ChangeAt

def R4F (x2 x3 x4 x5 : Value) (d : ArcD) (G : List Nat) (w : World) : Prop := Rows4 0 w x2 x3 x4 x5 d ∧ G = x2.ownBlock.toList ++ x3.ownBlock.toList ++ x4.ownBlock.toList ++ x5.ownBlock.toList
theorem Rows4.low {n : Nat} {w : World} {x2 x3 x4 x5 : Value} {d : ArcD} (h : Rows4 n w x2 x3 x4 x5 d) : Rows4 0 w x2 x3 x4 x5 d := ⟨h.k2.low (Nat.zero_le _), h.k3.low (Nat.zero_le _), h.k4.low (Nat.zero_le _), h.k5.low (Nat.zero_le _)⟩
theorem Rows4.keep {n : Nat} {w w' : World} {x2 x3 x4 x5 : Value} {d : ArcD} (h : Rows4 n w x2 x3 x4 x5 d) (hb : Below w.heap.size w w') : Rows4 n w' x2 x3 x4 x5 d := ⟨h.k2.keep hb, h.k3.keep hb, h.k4.keep hb, h.k5.keep hb⟩
theorem fixed_rows4 (x2 x3 x4 x5 : Value) (d : ArcD) : Fixed (R4F x2 x3 x4 x5 d) := by
  refine ⟨?_, ?_⟩
  · rintro G S w1 w2 ⟨h, rfl⟩ hc hn
    exact ⟨⟨h.k2.chg hc (fun k hk => hn k (by simp [hk])), h.k3.chg hc (fun k hk => hn k (by simp [hk])), h.k4.chg hc (fun k hk => hn k (by simp [hk])), h.k5.chg hc (fun k hk => hn k (by simp [hk]))⟩, rfl⟩
  · rintro G w ⟨h, rfl⟩ k hk
    simp only [List.mem_append, Option.mem_toList] at hk
    rcases hk with ((hk | hk) | hk) | hk
    · exact h.k2.lt k hk
    · exact h.k3.lt k hk
    · exact h.k4.lt k hk
    · exact h.k5.lt k hk
/-- The rows that Lists made, beside the cache. -/
theorem OneA.rows {B : Nat} {P : List Nat → World → Prop} {b : Nat} {d : ArcD} {w w' : World} (hP : Fixed P) (h : OneA B P b d w) (hb : Below w.heap.size w w') {x2 x3 x4 x5 : Value} {d' : ArcD} (hr : Rows4 w.heap.size w' x2 x3 x4 x5 d') : OneA B (Both P (R4F x2 x3 x4 x5 d')) b d w' := by
  refine Sep.more hP (fixed_arc b d) h hb (H := x2.ownBlock.toList ++ x3.ownBlock.toList ++ x4.ownBlock.toList ++ x5.ownBlock.toList) ⟨hr.low, rfl⟩ (fun k hk => ?_)
  simp only [List.mem_append, Option.mem_toList] at hk
  rcases hk with ((hk | hk) | hk) | hk
  · exact hr.k2.own_block k hk
  · exact hr.k3.own_block k hk
  · exact hr.k4.own_block k hk
  · exact hr.k5.own_block k hk
theorem OneA.have4 {B : Nat} {P : List Nat → World → Prop} {b : Nat} {d d' : ArcD} {w : World} {x2 x3 x4 x5 : Value} (h : OneA B (Both P (R4F x2 x3 x4 x5 d')) b d w) : Rows4 0 w x2 x3 x4 x5 d' := by
  obtain ⟨_, _, _, ⟨_, _, _, _, h2, _⟩, _⟩ := h
  exact h2.1

abbrev kA : ByteArray := ⟨#[97]⟩
abbrev kB : ByteArray := ⟨#[98]⟩
abbrev kC : ByteArray := ⟨#[99]⟩
def D0 : ArcD := newD 2
def D1 : ArcD := (askA D0 kA).1
def D2 : ArcD := (askA D1 kA).1
def D3 : ArcD := (askA D2 kB).1
def D4 : ArcD := (askA D3 kC).1
def D5 : ArcD := (askA D4 kB).1
def D6 : ArcD := (dropA D5 kB).1
theorem ok0 : OkA D0 := new_ok (by decide) (by decide)
theorem ok1 : OkA D1 := ask_ok ok0 _
theorem ok2 : OkA D2 := ask_ok ok1 _
theorem ok3 : OkA D3 := ask_ok ok2 _
theorem ok4 : OkA D4 := ask_ok ok3 _
theorem ok5 : OkA D5 := ask_ok ok4 _
theorem ok6 : OkA D6 := (drop_ct D5 kB).ok ok5
theorem len0 : D0.len ≤ 8000 := by rw [show D0.len = 0 from rfl]; decide
theorem len1 : D1.len ≤ 8000 := by have := ask_len D0 kA; have h0 : D0.len = 0 := rfl; show (askA D0 kA).1.len ≤ _; omega
theorem len1' : D1.len ≤ 1 := by have := ask_len D0 kA; have h0 : D0.len = 0 := rfl; show (askA D0 kA).1.len ≤ _; omega
theorem len2' : D2.len ≤ 2 := by have := ask_len D1 kA; have h0 := len1'; show (askA D1 kA).1.len ≤ _; omega
theorem len3' : D3.len ≤ 3 := by have := ask_len D2 kB; have h0 := len2'; show (askA D2 kB).1.len ≤ _; omega
theorem len4' : D4.len ≤ 4 := by have := ask_len D3 kC; have h0 := len3'; show (askA D3 kC).1.len ≤ _; omega
theorem len5' : D5.len ≤ 5 := by have := ask_len D4 kB; have h0 := len4'; show (askA D4 kB).1.len ≤ _; omega
theorem len6' : D6.len ≤ 5 := by have := dropq_len D5 kB; have h0 := len5'; show (dropA D5 kB).1.len ≤ _; omega
theorem a0 : (askA D0 kA).2.1 = false ∧ (askA D0 kA).2.2 = ⟨#[]⟩ := by decide +kernel
theorem a1 : (askA D1 kA).2.1 = true ∧ (askA D1 kA).2.2 = ⟨#[]⟩ := by decide +kernel
theorem a3 : (askA D3 kC).2.1 = false ∧ (askA D3 kC).2.2 = ⟨#[98]⟩ := by decide +kernel
theorem a4 : (askA D4 kB).2.1 = false ∧ (askA D4 kB).2.2 = ⟨#[97]⟩ := by decide +kernel
theorem l4 : D4.l 2 = [kC] ∧ D4.l 3 = [kA] ∧ D4.l 4 = [kB] ∧ D4.l 5 = [] := by decide +kernel
theorem t5 : D5.t = 1 := by decide +kernel
theorem h5 : (hasA D5 2 kB || hasA D5 3 kB) = true ∧ (dropA D5 kB).2 = true ∧ (hasA D6 2 kB || hasA D6 3 kB) = false := by decide +kernel

theorem sl_box (w : World) (k : ByteArray) : Sl (w.alloc (.cells #[.string k] 9 (0, 0))) Value.string (some ⟨w.heap.size, 0, none⟩) [k] :=
  Sl.of fun i x hx => by
    match i, hx with
    | 0, hx =>
      simp only [List.getElem?_cons_zero, Option.some.injEq] at hx
      subst hx
      rw [add_plain]
      exact boxed0 _ _ _ _ 0 _ rfl
theorem Sl.keep {w w' : World} {a : Option Addr} {l : List ByteArray} (h : Sl w Value.string a l) (hb : Below w.heap.size w w') : Sl w' Value.string a l := by
  intro hne
  obtain ⟨b, off, rfl, hlt, hc⟩ := h hne
  exact ⟨b, off, rfl, Nat.lt_of_lt_of_le hlt hb.size, fun i x hx => (hb.cell (p := ⟨b, off + i, none⟩) hlt).trans (hc i x hx)⟩

set_option maxRecDepth 100000 in
set_option maxHeartbeats 4000000 in
theorem live_any (w : World) : Calls Try.prog 9 #[] w fun e w' => e = .returned (.bool true) ∧ Below w.heap.size w w' := by
  go_enter Try.func9, Try.ntmps9
  go_wp2_with fail
  refine (one_new w.heap.size 2 w (Nat.le_refl _) (by decide) (by decide)).mono ?_
  rintro e w0 ⟨b, rfl, ho, hb⟩
  have H0 : Hid (OneA w.heap.size NoP b D0 w0) := ho
  have L0 := Lib.hid hb
  clear ho hb
  go_wp2_with fail
  refine (one_ask fixed_no H0.out kA len0 ok0).mono ?_
  rintro e w1 ⟨rfl, ho, hb⟩
  rw [a0.1, a0.2]
  have H1 : Hid (OneA w.heap.size NoP b D1 w1) := ho
  have L1 := Lib.hid (L0.out.trans hb)
  clear ho hb H0 L0
  go_wp2_with fail
  refine (one_ask fixed_no H1.out kA (Nat.le_trans len1' (by decide)) ok1).mono ?_
  rintro e w2 ⟨rfl, ho, hb⟩
  rw [a1.1, a1.2]
  have H2 : Hid (OneA w.heap.size NoP b D2 w2) := ho
  have L2 := Lib.hid (L1.out.trans hb)
  clear ho hb H1 L1
  go_wp2_with fail
  refine (one_ask fixed_no H2.out kB (Nat.le_trans len2' (by decide)) ok2).mono ?_
  rintro e w3 ⟨rfl, ho, hb⟩
  have H3 : Hid (OneA w.heap.size NoP b D3 w3) := ho
  have L3 := Lib.hid (L2.out.trans hb)
  clear ho hb H2 L2
  go_wp2_with fail
  refine (one_ask fixed_no H3.out kC (Nat.le_trans len3' (by decide)) ok3).mono ?_
  rintro e w4 ⟨rfl, ho, hb⟩
  rw [a3.1, a3.2]
  have H4 : Hid (OneA w.heap.size NoP b D4 w4) := ho
  have L4 := Lib.hid (L3.out.trans hb)
  clear ho hb H3 L3
  go_wp2_with fail
  refine (one_lists fixed_no H4.out (Nat.le_trans len4' (by decide)) ok4).mono ?_
  rintro e w40 ⟨x2, x3, x4, x5, rfl, hr, ho, hb⟩
  have H4 : Hid (OneA w.heap.size (Both NoP (R4F x2 x3 x4 x5 D4)) b D4 w40) := OneA.rows fixed_no H4.out hb hr
  have L4 := Lib.hid (L4.out.trans (hb.mono L4.out.size))
  clear ho hb hr
  go_wp2_with fail
  refine (one_ask (fixed_both fixed_no (fixed_rows4 x2 x3 x4 x5 D4)) H4.out kB (Nat.le_trans len4' (by decide)) ok4).mono ?_
  rintro e w5 ⟨rfl, ho, hb⟩
  rw [a4.1, a4.2]
  have H5 : Hid (OneA w.heap.size (Both NoP (R4F x2 x3 x4 x5 D4)) b D5 w5) := ho
  have L5 := Lib.hid (L4.out.trans hb)
  clear ho hb H4 L4
  obtain ⟨c2, c3, c4, c5⟩ := l4
  have hr := H5.out.have4
  have K2 := hr.k2
  have K3 := hr.k3
  have K4 := hr.k4
  have K5 := hr.k5
  rw [c2] at K2
  rw [c3] at K3
  rw [c4] at K4
  rw [c5] at K5
  obtain ⟨p2, q2, rfl, s2⟩ := K2.view
  obtain ⟨p3, q3, rfl, s3⟩ := K3.view
  obtain ⟨p4, q4, rfl, s4⟩ := K4.view
  obtain ⟨p5, q5, rfl, s5⟩ := K5.view
  have S2 := Lib.hid s2
  have S3 := Lib.hid s3
  have S4 := Lib.hid s4
  clear hr K2 K3 K4 K5 c2 c3 c4 c5 s2 s3 s4 s5
  have HF := Lib.hid (fixed_both fixed_no (fixed_rows4 (.slice p2 1 q2) (.slice p3 1 q3) (.slice p4 1 q4) (.slice p5 0 q5) D4))
  go_wp2_with fail
  refine (same_keys p2 (some ⟨w5.heap.size, 0, none⟩) q2 1 [kC] [kC] _ (S2.out.keep ((Below.refl _ _).alloc (Nat.le_refl _) _)) (sl_box w5 kC) (by decide)).mono ?_
  rintro e w6 ⟨rfl, hb⟩
  rw [decide_eq_true (rfl : [kC] = [kC])]
  have hbb := (((Below.refl w5.heap.size w5).alloc (Nat.le_refl _) (.cells #[.string kC] 9 (0, 0)))).trans (hb.mono (by rw [size_alloc]; omega))
  have S3 := Lib.hid (S3.out.keep hbb)
  have S4 := Lib.hid (S4.out.keep hbb)
  have H5 := Lib.hid (OneA.keep (fixed_both fixed_no (fixed_rows4 (.slice p2 1 q2) (.slice p3 1 q3) (.slice p4 1 q4) (.slice p5 0 q5) D4)) H5.out hbb)
  have L5 := Lib.hid (L5.out.trans (hbb.mono L5.out.size))
  clear hb hbb
  go_wp2_with fail
  refine (same_keys p3 (some ⟨w6.heap.size, 0, none⟩) q3 1 [kA] [kA] _ (S3.out.keep ((Below.refl _ _).alloc (Nat.le_refl _) _)) (sl_box w6 kA) (by decide)).mono ?_
  rintro e w7 ⟨rfl, hb⟩
  rw [decide_eq_true (rfl : [kA] = [kA])]
  have hbb := (((Below.refl w6.heap.size w6).alloc (Nat.le_refl _) (.cells #[.string kA] 9 (0, 0)))).trans (hb.mono (by rw [size_alloc]; omega))
  have S4 := Lib.hid (S4.out.keep hbb)
  have H5 := Lib.hid (OneA.keep (fixed_both fixed_no (fixed_rows4 (.slice p2 1 q2) (.slice p3 1 q3) (.slice p4 1 q4) (.slice p5 0 q5) D4)) H5.out hbb)
  have L5 := Lib.hid (L5.out.trans (hbb.mono L5.out.size))
  clear hb hbb
  go_wp2_with fail
  refine (same_keys p4 (some ⟨w7.heap.size, 0, none⟩) q4 1 [kB] [kB] _ (S4.out.keep ((Below.refl _ _).alloc (Nat.le_refl _) _)) (sl_box w7 kB) (by decide)).mono ?_
  rintro e w8 ⟨rfl, hb⟩
  rw [decide_eq_true (rfl : [kB] = [kB])]
  have hbb := (((Below.refl w7.heap.size w7).alloc (Nat.le_refl _) (.cells #[.string kB] 9 (0, 0)))).trans (hb.mono (by rw [size_alloc]; omega))

  have H5 := Lib.hid (OneA.keep (fixed_both fixed_no (fixed_rows4 (.slice p2 1 q2) (.slice p3 1 q3) (.slice p4 1 q4) (.slice p5 0 q5) D4)) H5.out hbb)
  have L5 := Lib.hid (L5.out.trans (hbb.mono L5.out.size))
  clear hb hbb
  have e5 := t5
  go_wp2_with fail
  refine (one_target H5.out ok5).mono ?_
  rintro e w9 ⟨rfl, rfl⟩
  rw [e5]
  clear e5
  go_wp2_with fail
  refine (one_has HF.out H5.out kB (Nat.le_trans len5' (by decide)) ok5).mono ?_
  rintro e w9 ⟨rfl, ho, hb⟩
  rw [h5.1]
  have H5 := Lib.hid ho
  have L5 := Lib.hid (L5.out.trans (hb.mono L5.out.size))
  clear ho hb
  go_wp2_with fail
  refine (one_drop HF.out H5.out kB (Nat.le_trans len5' (by decide)) ok5).mono ?_
  rintro e w10 ⟨rfl, ho, hb⟩
  rw [h5.2.1]
  have H6 : Hid (OneA w.heap.size (Both NoP (R4F (.slice p2 1 q2) (.slice p3 1 q3) (.slice p4 1 q4) (.slice p5 0 q5) D4)) b D6 w10) := ho
  have L6 := Lib.hid (L5.out.trans hb)
  clear ho hb H5 L5
  go_wp2_with fail
  refine (one_has HF.out H6.out kB (Nat.le_trans len6' (by decide)) ok6).mono ?_
  rintro e w11 ⟨rfl, ho, hb⟩
  rw [h5.2.2]
  have L6 := Lib.hid (L6.out.trans (hb.mono L6.out.size))
  clear ho hb H6
  go_wp2_with fail
  refine (arc_new_none 0 w11 (.inl (by decide))).mono ?_
  rintro e w12 ⟨rfl, rfl⟩
  go_wp2
  go_ret
  exact ⟨rfl, L6.out⟩
end Go.Proofs.Ytnfdcjchobonaaa
