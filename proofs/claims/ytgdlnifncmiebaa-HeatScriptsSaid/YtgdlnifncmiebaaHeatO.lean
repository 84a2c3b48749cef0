/-
  A heat beside other things that the call owns; the calls of one that is none; many touches.
-/
import Derived.Test.YtgdlnifncmiebaaHeatN
namespace Go.Proofs.Ytgdlnifncmiebaa
open Go.RowKit Go.ChangeShapes Go.WideShapes Go.ChangeAt

def In64 (n : Int) : Prop := -9223372036854775808 ≤ n ∧ n ≤ 9223372036854775807
theorem touch_ok {l : List MkD} (h : OkM l) (k : ByteArray) {now : Int} (hn : In64 now) (hl : l.length < 80000) : OkM (touchM l k now) := by
  refine ⟨by have := touch_len (l := l) k now; omega, fun x hx => ?_⟩
  unfold touchM at hx
  rcases List.mem_append.1 hx with h1 | h1
  · exact h.2 x (List.mem_filter.1 h1).1
  · rw [List.mem_singleton] at h1
    subst h1
    show 0 ≤ (newM l k now).1 ∧ (newM l k now).1 ≤ 1048576 ∧ -9223372036854775808 ≤ (newM l k now).2 ∧ (newM l k now).2 ≤ 9223372036854775807
    unfold newM
    cases e : findM l k with
    | none => exact ⟨(show (0 : Int) ≤ 16 by decide), (show (16 : Int) ≤ 1048576 by decide), hn.1, hn.2⟩
    | some m =>
      have h2 := h.tick e
      have h3 := (worth_le m.2 now h2.2.1).1
      have h4 := hn.1
      have h5 := hn.2
      obtain ⟨h6, h7, h8, h9⟩ := h2
      show 0 ≤ min (worthOf m.1 m.2 now + 16) 1048576 ∧ min (worthOf m.1 m.2 now + 16) 1048576 ≤ 1048576 ∧ -9223372036854775808 ≤ max m.2 now ∧ max m.2 now ≤ 9223372036854775807
      omega
theorem forget_ok {l : List MkD} (h : OkM l) (k : ByteArray) : OkM (forgetM l k) := ⟨Nat.le_trans (forget_le l k) h.1, fun x hx => h.2 x (List.mem_filter.1 hx).1⟩
theorem nil_ok : OkM [] := ⟨by decide, fun _ h => by cases h⟩

/-- The heat b, of the counts l, beside P. -/
def OneH (B : Nat) (P : List Nat → World → Prop) (b : Nat) (l : List MkD) (w : World) : Prop := Sep B P (HeatF b l) w
section
variable {B : Nat} {P : List Nat → World → Prop} (hP : Fixed P) {b : Nat} {l : List MkD} {w : World} (h : OneH B P b l w)
include hP h
theorem OneH.keep {w' : World} (hb : Below w.heap.size w w') : OneH B P b l w' := Sep.keep hP (fixed_heat b l) h hb
theorem one_touch (k : ByteArray) (now : Int) (hk : k.size ≤ maxLen) (hok : OkM l) (hn : In64 now) : Calls Try.prog 11 #[.pointer (some ⟨b, 0, none⟩), .string k, .int .i64 now] w fun e w' => e = .returned (.tuple #[]) ∧ OneH B P b (touchM l k now) w' ∧ Below B w w' := by
  obtain ⟨hz, G, F, h1, h2, h3, h4⟩ := id h
  refine (touch_any b F l k now w h2 hk hok hn).mono ?_
  rintro e w' ⟨rfl, F', k1, k2, k3⟩
  refine ⟨rfl, ⟨Nat.le_trans hz k2.size, G, F', hP.keep _ _ _ _ h1 k2 (fun i hi hf => (h3 i hf).2 hi), k1, fun i hi => ?_, h4⟩, k2.below hz (fun i hi => (h3 i hi).1)⟩
  rcases k3 i hi with h5 | h5
  · exact h3 i h5
  · exact ⟨Nat.le_trans hz h5, fun hg => by have := hP.lt _ _ h1 i hg; omega⟩
theorem one_forget (k : ByteArray) (hk : k.size ≤ maxLen) : Calls Try.prog 13 #[.pointer (some ⟨b, 0, none⟩), .string k] w fun e w' => e = .returned (.tuple #[]) ∧ OneH B P b (forgetM l k) w' ∧ Below B w w' := by
  obtain ⟨hz, G, F, h1, h2, h3, h4⟩ := id h
  refine (forget_any b F l k w h2 hk).mono ?_
  rintro e w' ⟨rfl, F', k1, k2, k3⟩
  refine ⟨rfl, ⟨Nat.le_trans hz k2.size, G, F', hP.keep _ _ _ _ h1 k2 (fun i hi hf => (h3 i hf).2 hi), k1, fun i hi => ?_, h4⟩, k2.below hz (fun i hi => (h3 i hi).1)⟩
  rcases k3 i hi with h5 | h5
  · exact h3 i h5
  · exact ⟨Nat.le_trans hz h5, fun hg => by have := hP.lt _ _ h1 i hg; omega⟩
theorem one_value (k : ByteArray) (now : Int) (hk : k.size ≤ maxLen) (hok : OkM l) (hn : now ≤ 9223372036854775807) : Calls Try.prog 15 #[.pointer (some ⟨b, 0, none⟩), .string k, .int .i64 now] w fun e w' => e = .returned (.int .i64 (valueM l k now)) ∧ OneH B P b l w' ∧ Below w.heap.size w w' := by
  obtain ⟨hz, G, F, h1, h2, h3, h4⟩ := id h
  exact (value_any b F l k now w h2 hk hok hn).mono fun e w' hh => ⟨hh.1, OneH.keep hP h hh.2, hh.2⟩
omit hP in
theorem one_len : Calls Try.prog 17 #[.pointer (some ⟨b, 0, none⟩)] w fun e w' => e = .returned (.int .i64 (l.length : Int)) ∧ w = w' := by
  obtain ⟨hz, G, F, h1, h2, h3, h4⟩ := h
  exact len_any b F l w h2
theorem one_hot (now n : Int) (hok : OkM l) (hn : now ≤ 9223372036854775807) : Calls Try.prog 19 #[.pointer (some ⟨b, 0, none⟩), .int .i64 now, .int .i64 n] w fun e w' => ∃ v, e = .returned v ∧ Ks w' w.heap.size v (hotM l now n) ∧ OneH B P b l w' ∧ Below w.heap.size w w' := by
  obtain ⟨hz, G, F, h1, h2, h3, h4⟩ := id h
  exact (hot_any b F l now n w h2 hok hn).mono fun e w' ⟨v, hh⟩ => ⟨v, hh.1, hh.2.1, OneH.keep hP h hh.2.2, hh.2.2⟩
omit hP in
theorem OneH.nodup : NoDup l := by
  obtain ⟨_, _, _, _, ⟨_, _, _, _, _, _, hM⟩, _⟩ := h
  exact hM.nodup
end
theorem one_new (B : Nat) (w : World) (hz : B ≤ w.heap.size) :
    Calls Try.prog 10 #[] w fun e w' => ∃ b, e = .returned (.pointer (some ⟨b, 0, none⟩)) ∧ OneH B NoP b [] w' ∧ Below B w w' := by
  refine (heat_new w).mono ?_
  rintro e w' ⟨b, F, rfl, hf, hb, hk⟩
  exact ⟨b, rfl, Sep.new hz hb.size hf hk, hb.mono hz⟩
/-- A row of strings that the call made, beside. -/
def RowF (x : Value) (l : List ByteArray) (G : List Nat) (w : World) : Prop := Ks w 0 x l ∧ G = x.ownBlock.toList
theorem fixed_row (x : Value) (l : List ByteArray) : Fixed (RowF x l) := by
  refine ⟨?_, ?_⟩
  · rintro G S w1 w2 ⟨h, rfl⟩ hc hn
    exact ⟨h.chg hc (fun k hk => hn k (by simpa using hk)), rfl⟩
  · rintro G w ⟨h, rfl⟩ k hk
    exact h.lt k (by simpa using hk)
theorem OneH.row {B : Nat} {P : List Nat → World → Prop} {b : Nat} {l : List MkD} {w w' : World} (hP : Fixed P) (h : OneH B P b l w) (hb : Below w.heap.size w w') {x : Value} {r : List ByteArray} (hr : Ks w' w.heap.size x r) : OneH B (Both P (RowF x r)) b l w' := by
  refine Sep.more hP (fixed_heat b l) h hb (H := x.ownBlock.toList) ⟨hr.low (Nat.zero_le _), rfl⟩ (fun k hk => ?_)
  exact hr.own_block k (by simpa using hk)
theorem OneH.rowed {B : Nat} {P : List Nat → World → Prop} {b : Nat} {l : List MkD} {w : World} {x : Value} {r : List ByteArray} (h : OneH B (Both P (RowF x r)) b l w) : Ks w 0 x r := by
  obtain ⟨_, _, _, ⟨_, _, _, _, h2, _⟩, _⟩ := h
  exact h2.1

set_option maxRecDepth 100000 in
theorem touch_nil (k : ByteArray) (now : Int) (w : World) : Calls Try.prog 11 #[.pointer none, .string k, .int .i64 now] w fun e w' => e = .returned (.tuple #[]) ∧ w = w' := by
  go_enter Try.func11, Try.ntmps11
  go_wp2
  first | go_end0 | (refine bodyPost_ret (results_none rfl _ _ _) rfl ?_)
  exact ⟨rfl, rfl⟩
set_option maxRecDepth 100000 in
theorem forget_nil (k : ByteArray) (w : World) : Calls Try.prog 13 #[.pointer none, .string k] w fun e w' => e = .returned (.tuple #[]) ∧ w = w' := by
  go_enter Try.func13, Try.ntmps13
  go_wp2
  first | go_end0 | (refine bodyPost_ret (results_none rfl _ _ _) rfl ?_)
  exact ⟨rfl, rfl⟩
set_option maxRecDepth 100000 in
theorem value_nil (k : ByteArray) (now : Int) (w : World) : Calls Try.prog 15 #[.pointer none, .string k, .int .i64 now] w fun e w' => e = .returned (.int .i64 0) ∧ w = w' := by
  go_enter Try.func15, Try.ntmps15
  go_wp2
  go_ret
  exact ⟨rfl, rfl⟩
set_option maxRecDepth 100000 in
theorem hot_nil (now n : Int) (w : World) : Calls Try.prog 19 #[.pointer none, .int .i64 now, .int .i64 n] w fun e w' => e = .returned (.slice none 0 0) ∧ w = w' := by
  go_enter Try.func19, Try.ntmps19
  go_wp2
  go_ret
  exact ⟨rfl, rfl⟩
set_option maxRecDepth 100000 in
theorem len_nil (w : World) : Calls Try.prog 17 #[.pointer none] w fun e w' => e = .returned (.int .i64 0) ∧ w = w' := by
  go_enter Try.func17, Try.ntmps17
  go_wp2
  go_ret
  exact ⟨rfl, rfl⟩
end Go.Proofs.Ytgdlnifncmiebaa
