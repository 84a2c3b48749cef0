/-
  Texts put together: Chg, Keys, KeysT.
-/
import Derived.Test.YtbeldjijnjgbfaaMg1
import Derived.Test.YtbeldjijnjgbfaaMg9
import Derived.Lib.Hide
import Derived.Deep.Draws
import Derived.Deep.RegionLaw
import Derived.Maps.AppendAt
import Derived.Laws.CopyRow
import Derived.Lib.SliceRun
import Derived.Deep.QuietTactic
import Derived.BigQuiet
namespace Go.Proofs.Ytbeldjijnjgbfaa
open Go.RowKit

/-- Blocks outside S are as they were (and blocks were made). -/
structure Chg (S : List Nat) (w w' : World) : Prop where
  os : w'.os = w.os
  tape : w'.tape = w.tape
  output : w'.output = w.output
  size : w.heap.size ≤ w'.heap.size
  block : ∀ k, k < w.heap.size → k ∉ S → w'.heap[k]? = w.heap[k]?
theorem Chg.refl (S : List Nat) (w : World) : Chg S w w := ⟨rfl, rfl, rfl, Nat.le_refl _, fun _ _ _ => rfl⟩
theorem Chg.trans {S : List Nat} {w w1 w2 : World} (h : Chg S w w1) (k : Chg S w1 w2) : Chg S w w2 :=
  ⟨k.os.trans h.os, k.tape.trans h.tape, k.output.trans h.output, Nat.le_trans h.size k.size, fun i hi hn => (k.block i (Nat.lt_of_lt_of_le hi h.size) hn).trans (h.block i hi hn)⟩
theorem Chg.mono {S S' : List Nat} {w w' : World} (h : Chg S w w') (hS : ∀ k ∈ S, k ∈ S') : Chg S' w w' := ⟨h.os, h.tape, h.output, h.size, fun k hk hn => h.block k hk (fun h => hn (hS k h))⟩
/-- A second change may also touch what the first one made. -/
theorem Chg.then {S S' : List Nat} {w w1 w2 : World} (h : Chg S w w1) (k : Chg S' w1 w2) (hS : ∀ i ∈ S', i ∈ S ∨ w.heap.size ≤ i) : Chg S w w2 :=
  ⟨k.os.trans h.os, k.tape.trans h.tape, k.output.trans h.output, Nat.le_trans h.size k.size, fun i hi hn =>
    (k.block i (Nat.lt_of_lt_of_le hi h.size) (fun hm => by rcases hS i hm with h1 | h1; exact hn h1; omega)).trans (h.block i hi hn)⟩
theorem Chg.of {S : List Nat} {w w' : World} {n : Nat} (h : Below n w w') (hn : w.heap.size ≤ n) : Chg S w w' := ⟨h.os, h.tape, h.output, h.size, fun k hk _ => h.block k (Nat.lt_of_lt_of_le hk hn)⟩
theorem Chg.only {b : Nat} {w w' : World} (h : Only b w w') : Chg [b] w w' := ⟨h.os, h.tape, h.output, h.size, fun k hk hn => h.block k hk (fun e => hn (by injection e with e; simp [e]))⟩
/-- What touches only blocks from n on leaves all below n. -/
theorem Chg.below {S : List Nat} {w w' : World} {n : Nat} (h : Chg S w w') (hn : n ≤ w.heap.size) (hS : ∀ k ∈ S, n ≤ k) : Below n w w' :=
  ⟨h.os, h.tape, h.output, h.size, fun k hk => h.block k (Nat.lt_of_lt_of_le hk hn) (fun hm => by have := hS k hm; omega)⟩
theorem Chg.drewN {S : List Nat} {w w' : World} (h : Chg S w w') (n : Nat) : Chg S w (w'.drewN n) := ⟨h.os, h.tape, h.output, h.size, h.block⟩
theorem Chg.drew {S : List Nat} {w w' : World} (h : Chg S w w') : Chg S w w'.drew := ⟨h.os, h.tape, h.output, h.size, h.block⟩
theorem Chg.set {S : List Nat} {w w' : World} (h : Chg S w w') (b j : Nat) (v : Value) (hb : b ∈ S ∨ w.heap.size ≤ b) : Chg S w (w'.setCell ⟨b, j, none⟩ v) :=
  h.then (Chg.only (Only.set b j w' v)) (fun i hi => by rw [List.mem_singleton] at hi; rw [hi]; exact hb)
theorem Chg.alloc {S : List Nat} {w w' : World} (h : Chg S w w') (o : Obj) : Chg S w (w'.alloc o) := h.trans (Chg.of ((Below.refl _ _).alloc (Nat.le_refl _) o) (Nat.le_refl _))
theorem Chg.grown {S : List Nat} {w w' : World} {row : Option Nat} (h : w.grownBy w' row) (hr : ∀ k, row = some k → k ∈ S) : Chg S w w' :=
  ⟨h.os, h.tape, h.output, h.size, fun k hk hn => h.block k hk (fun e => hn (hr k e.symm))⟩

/-- What lies in blocks G alone, and stays as long as these do. -/
structure Fixed (P : List Nat → World → Prop) : Prop where
  keep : ∀ G S w1 w2, P G w1 → Chg S w1 w2 → (∀ k ∈ G, k ∉ S) → P G w2
  lt : ∀ G w, P G w → ∀ k ∈ G, k < w.heap.size
def NoP (G : List Nat) (_w : World) : Prop := G = []
theorem fixed_no : Fixed NoP := ⟨fun _ _ _ _ h _ _ => h, fun G _ h k hk => by rw [h] at hk; cases hk⟩
def Both (P Q : List Nat → World → Prop) (G : List Nat) (w : World) : Prop := ∃ G1 G2, G = G1 ++ G2 ∧ P G1 w ∧ Q G2 w ∧ ∀ k ∈ G1, k ∉ G2
theorem fixed_both {P Q : List Nat → World → Prop} (hP : Fixed P) (hQ : Fixed Q) : Fixed (Both P Q) := by
  refine ⟨?_, ?_⟩
  · rintro G S w1 w2 ⟨G1, G2, rfl, h1, h2, hd⟩ hc hn
    exact ⟨G1, G2, rfl, hP.keep _ _ _ _ h1 hc (fun k hk => hn k (List.mem_append_left _ hk)), hQ.keep _ _ _ _ h2 hc (fun k hk => hn k (List.mem_append_right _ hk)), hd⟩
  · rintro G w ⟨G1, G2, rfl, h1, h2, _⟩ k hk
    rcases List.mem_append.1 hk with h | h
    · exact hP.lt _ _ h1 k h
    · exact hQ.lt _ _ h2 k h
/-- What the call owns, all from B on: P, and Q beside it. -/
def Sep (B : Nat) (P Q : List Nat → World → Prop) (w : World) : Prop := B ≤ w.heap.size ∧ ∃ G F, P G w ∧ Q F w ∧ (∀ k ∈ F, B ≤ k ∧ k ∉ G) ∧ ∀ k ∈ G, B ≤ k
/-- A call turned Q into Q': it touched Q's blocks alone, and Q' has no others but new ones. -/
def Tod (Q' : List Nat → World → Prop) (F : List Nat) (w w' : World) : Prop := ∃ F', Q' F' w' ∧ Chg F w w' ∧ ∀ k ∈ F', k ∈ F ∨ w.heap.size ≤ k
theorem Tod.trans {Q1 Q2 : List Nat → World → Prop} {F : List Nat} {w w1 w2 : World} (h : Tod Q1 F w w1) (k : ∀ F1, Q1 F1 w1 → Tod Q2 F1 w1 w2) : Tod Q2 F w w2 := by
  obtain ⟨F1, h1, h2, h3⟩ := h
  obtain ⟨F2, k1, k2, k3⟩ := k F1 h1
  refine ⟨F2, k1, h2.then k2 h3, fun i hi => ?_⟩
  rcases k3 i hi with h4 | h4
  · exact h3 i h4
  · exact .inr (Nat.le_trans h2.size h4)
/-- A call that leaves old memory alone. -/
theorem Tod.same {Q : List Nat → World → Prop} (hQ : Fixed Q) {F : List Nat} {w w' : World} (h : Q F w) (hb : Below w.heap.size w w') : Tod Q F w w' :=
  have hc : Chg [] w w' := Chg.of hb (Nat.le_refl _)
  ⟨F, hQ.keep _ _ _ _ h hc (fun _ _ h => by cases h), hc.mono (fun _ h => by cases h), fun _ h => .inl h⟩
theorem Tod.size {Q : List Nat → World → Prop} {F : List Nat} {w w' : World} (h : Tod Q F w w') : w.heap.size ≤ w'.heap.size := by
  obtain ⟨_, _, h, _⟩ := h
  exact h.size
theorem Sep.to {B : Nat} {P Q Q' : List Nat → World → Prop} {w w' : World} (hP : Fixed P) (h : Sep B P Q w) (k : ∀ F, Q F w → Tod Q' F w w') : Sep B P Q' w' ∧ Below B w w' := by
  obtain ⟨hz, G, F, h1, h2, h3, h4⟩ := h
  obtain ⟨F', k1, k2, k3⟩ := k F h2
  refine ⟨⟨Nat.le_trans hz k2.size, G, F', hP.keep _ _ _ _ h1 k2 (fun i hi hf => (h3 i hf).2 hi), k1, fun i hi => ?_, h4⟩, k2.below hz (fun i hi => (h3 i hi).1)⟩
  rcases k3 i hi with h5 | h5
  · exact h3 i h5
  · exact ⟨Nat.le_trans hz h5, fun hg => by have := hP.lt _ _ h1 i hg; omega⟩
theorem Sep.keep {B : Nat} {P Q : List Nat → World → Prop} {w w' : World} (hP : Fixed P) (hQ : Fixed Q) (h : Sep B P Q w) (hb : Below w.heap.size w w') : Sep B P Q w' := by
  obtain ⟨hz, G, F, h1, h2, h3, h4⟩ := h
  have hc : Chg [] w w' := Chg.of hb (Nat.le_refl _)
  exact ⟨Nat.le_trans hz hb.size, G, F, hP.keep _ _ _ _ h1 hc (fun _ _ h => by cases h), hQ.keep _ _ _ _ h2 hc (fun _ _ h => by cases h), h3, h4⟩
/-- What a call made joins what is owned. -/
theorem Sep.more {B : Nat} {P Q R : List Nat → World → Prop} {w w' : World} (hP : Fixed P) (hQ : Fixed Q) (h : Sep B P Q w) (hb : Below w.heap.size w w') {H : List Nat} (hR : R H w') (hn : ∀ k ∈ H, w.heap.size ≤ k) : Sep B (Both P R) Q w' := by
  obtain ⟨hz, G, F, h1, h2, h3, h4⟩ := h
  have hc : Chg [] w w' := Chg.of hb (Nat.le_refl _)
  have l1 := hP.lt _ _ h1
  have l2 := hQ.lt _ _ h2
  refine ⟨Nat.le_trans hz hb.size, G ++ H, F, ⟨G, H, rfl, hP.keep _ _ _ _ h1 hc (fun _ _ h => by cases h), hR, fun k hk hh => ?_⟩, hQ.keep _ _ _ _ h2 hc (fun _ _ h => by cases h), fun k hk => ⟨(h3 k hk).1, fun hm => ?_⟩, fun k hk => ?_⟩
  · have := l1 k hk; have := hn k hh; omega
  · rcases List.mem_append.1 hm with h5 | h5
    · exact (h3 k hk).2 h5
    · have := l2 k hk; have := hn k h5; omega
  · rcases List.mem_append.1 hk with h5 | h5
    · exact h4 k h5
    · have := hn k h5; omega
/-- The two change places: to speak of what lay beside. -/
theorem Sep.swap {B : Nat} {P Q R : List Nat → World → Prop} {w : World} (h : Sep B (Both P R) Q w) : Sep B (Both P Q) R w := by
  obtain ⟨hz, G, F, ⟨G1, G2, rfl, h1, h2, hd⟩, h3, h4, h5⟩ := h
  refine ⟨hz, G1 ++ F, G2, ⟨G1, F, rfl, h1, h3, fun k hk hf => (h4 k hf).2 (List.mem_append_left _ hk)⟩, h2, fun k hk => ⟨h5 k (List.mem_append_right _ hk), fun hm => ?_⟩, fun k hk => ?_⟩
  · rcases List.mem_append.1 hm with h6 | h6
    · exact hd k h6 hk
    · exact (h4 k h6).2 (List.mem_append_right _ hk)
  · rcases List.mem_append.1 hk with h6 | h6
    · exact h5 k (List.mem_append_left _ h6)
    · exact (h4 k h6).1
theorem Sep.first {B : Nat} {P Q : List Nat → World → Prop} {w : World} (h : Sep B P Q w) : ∃ G, P G w ∧ ∀ k ∈ G, B ≤ k := by
  obtain ⟨_, G, _, h1, _, _, h4⟩ := h
  exact ⟨G, h1, h4⟩
theorem Sep.own {B : Nat} {P Q : List Nat → World → Prop} {w : World} (h : Sep B P Q w) : ∃ F, Q F w ∧ ∀ k ∈ F, B ≤ k := by
  obtain ⟨_, _, F, _, h2, h3, _⟩ := h
  exact ⟨F, h2, fun k hk => (h3 k hk).1⟩
theorem Sep.new {B : Nat} {Q : List Nat → World → Prop} {w w' : World} (hz : B ≤ w.heap.size) (hb : w.heap.size ≤ w'.heap.size) {F : List Nat} (h : Q F w') (hn : ∀ k ∈ F, w.heap.size ≤ k) : Sep B NoP Q w' :=
  ⟨Nat.le_trans hz hb, [], F, rfl, h, fun k hk => ⟨Nat.le_trans hz (hn k hk), fun h => by cases h⟩, fun _ h => by cases h⟩
end Go.Proofs.Ytbeldjijnjgbfaa

namespace Go.Proofs.Ytbeldjijnjgbfaa
open Go.RowKit Go.ChangeShapes Go.WideShapes Go.ChangeAt

theorem infoKey : (Try.prog.info? 9).map (fun i => (i.zero, i.size, i.bytes)) = some (some (.string ⟨#[]⟩), 1, 16) := by kernel_rfl
theorem zeroKey (w : World) : (zeroValue 9).run Try.prog w = .ok (.string ⟨#[]⟩) w := by kernel_rfl
theorem eq_nil_keys (a : Option Addr) (n c : Nat) (b : Bool) (hb : a.isNone = b) (w : World) : (binOp .eql 26 (.slice a n c) (.slice none 0 0)).run Try.prog w = .ok (.bool b) w := by
  rw [← hb]; exact Go.Lib.run_eql_slice_nil w _ _ a n c 0 0 Try.underlying26

/-- The value v is a slice of the call's own that holds the strings l. -/
def Ks (w : World) (base : Nat) (v : Value) (l : List ByteArray) : Prop := w.ownsRow base 9 1 v l.length (l.map Value.string)
section
variable {w w' : World} {base : Nat} {v : Value} {l : List ByteArray}
theorem Ks.nil (w : World) (base : Nat) : Ks w base (.slice none 0 0) [] := World.ownsRow_nil _ _ _ _
theorem Ks.own_block (h : Ks w base v l) : ∀ k, v.ownBlock = some k → base ≤ k := fun k hk => (World.ownsRow.lt h k hk).1
theorem Ks.lt (h : Ks w base v l) : ∀ k, v.ownBlock = some k → k < w.heap.size := fun k hk => (World.ownsRow.lt h k hk).2
theorem Ks.keep (h : Ks w base v l) (hb : Below w.heap.size w w') : Ks w' base v l := ownsRow_of h fun k _ hlt => hb.block k hlt
theorem Ks.chg {S : List Nat} (h : Ks w base v l) (hc : Chg S w w') (hn : ∀ k, v.ownBlock = some k → k ∉ S) : Ks w' base v l := ownsRow_of h fun k hk hlt => hc.block k hlt (hn k hk)
theorem Ks.alloc (h : Ks w base v l) (o : Obj) : Ks (w.alloc o) base v l := World.ownsRow.alloc h o
theorem Ks.low {b : Nat} (h : Ks w base v l) (hb : b ≤ base) : Ks w b v l := by
  refine ⟨h.1, ?_⟩
  rcases h.2 with h | ⟨g, cap, cur, h1, h2, h3⟩
  · exact .inl h
  · exact .inr ⟨g, cap, cur, h1, Nat.le_trans hb h2, h3⟩
theorem Ks.view (h : Ks w base v l) : ∃ a cap, v = .slice a l.length cap ∧ Sl w Value.string a l := by
  have h' := h
  rcases h.2 with ⟨rfl, h0⟩ | ⟨g, cap, cur, rfl, hg, hh, _⟩
  · have : l = [] := List.eq_nil_of_length_eq_zero h0
    subst this
    exact ⟨none, 0, rfl, Sl.nil⟩
  · refine ⟨some ⟨g, 0, none⟩, cap, rfl, fun _ => ⟨g, 0, rfl, lt_of_block hh, fun i x hx => ?_⟩⟩
    have hi : i < l.length := (List.getElem?_eq_some_iff.1 hx).1
    rw [Nat.zero_add, World.ownsRow.cellAt h' i (by omega), List.getElem?_map, hx]
    rfl
/-- Its shape: nothing, or a block of its own. -/
theorem Ks.form (h : Ks w base v l) : (v = .slice none 0 0 ∧ l = []) ∨ ∃ g cap, v = .slice (some ⟨g, 0, none⟩) l.length cap ∧ base ≤ g ∧ g < w.heap.size ∧ l.length ≤ cap ∧ cap ≤ maxLen := by
  rcases h.2 with ⟨rfl, h0⟩ | ⟨g, cap, cur, rfl, hg, hh, h1, h2, _⟩
  · exact .inl ⟨rfl, List.eq_nil_of_length_eq_zero h0⟩
  · exact .inr ⟨g, cap, rfl, hg, lt_of_block hh, h1, h2⟩
end

theorem key_one (l : List ByteArray) : ∀ u ∈ l.map Value.string, u.oneCell' = true := by
  intro u hu
  obtain ⟨y, _, rfl⟩ := List.mem_map.1 hu
  rfl
/-- 'append(s, x...)' on such a row. -/
theorem run_keys_push (W : World) (ty : TypeId) (base : Nat) (v : Value) (l : List ByteArray) (hb : Ks W base v l) (ad : Addr) (m c : Nat) (cs : List ByteArray) (hm : cs.length = m) (hcell : ∀ j u, cs[j]? = some u → W.cell? (ad.add j) = some (.string u))
    (hbytes : l.length + m ≤ 2000000) (hbase : base ≤ W.heap.size) :
    ∃ v' w', (Builtin.append_ #[26, 26] ty #[v, .slice (some ad) m c]).run Try.prog W = .ok v' w' ∧ Ks w' base v' (l ++ cs) ∧ W.grownBy w' v.ownBlock ∧ (v'.ownBlock = v.ownBlock ∨ v'.ownBlock = some W.heap.size) := by
  obtain ⟨i0, hi, hz0, hz1, hz2⟩ := info_parts infoKey
  subst hm
  obtain ⟨v', w', hr, hown, hg, _, hob⟩ := run_append_own_at (P := Try.prog) W base 26 ty 9 i0 (.string ⟨#[]⟩) 1 16 Try.underlying26 hi hz0 hz1 hz2 rfl (by decide) v l.length (l.map Value.string) hb ad cs.length c (cs.map Value.string) (by simp)
    (by intro j u hu; rw [List.getElem?_map] at hu; obtain ⟨y, hy, rfl⟩ := Option.map_eq_some_iff.1 hu; exact hcell j y hy) (key_one cs) (by unfold maxLen; omega) (by omega) hbase
  refine ⟨v', w', hr, ?_, hg, hob⟩
  unfold Ks
  rw [List.map_append, List.length_append]
  exact hown
theorem wp_keys_push {ops : Array Oper} {rest : List Oper} {o : Oper} {a : Act} {Q : Exit → Act → World → Prop} (W : World) (hgd : o.guard = none) (s x : Operand)
    (ho : o.op = .call { callee := .builtin .append, args := #[s, x], argTypes := #[26, 26] })
    (base : Nat) (v : Value) (l : List ByteArray) (hs : a.eval s = v) (hb : Ks W base v l)
    (ad : Addr) (m c : Nat) (cs : List ByteArray) (hx : a.eval x = .slice (some ad) m c) (hm : cs.length = m) (hcell : ∀ j u, cs[j]? = some u → W.cell? (ad.add j) = some (.string u))
    (hbytes : l.length + m ≤ 2000000) (hbase : base ≤ W.heap.size)
    (h : ∀ v' w', Ks w' base v' (l ++ cs) → W.grownBy w' v.ownBlock → (v'.ownBlock = v.ownBlock ∨ v'.ownBlock = some W.heap.size) → wpList Try.prog ops Q rest (a.put o.dst v') w') : wpList Try.prog ops Q (o :: rest) a W := by
  obtain ⟨v', w', hr, h1, h2, h3⟩ := run_keys_push W o.type base v l hb ad m c cs hm hcell hbytes hbase
  refine wpList_plain hgd fun K hK => ?_
  unfold Oper.wp execOp
  simp only [ho, resolve, invoke, builtin, Sem.run_bind, Sem.run_pure, Result.andThen_ok, List.map_toArray, List.map_cons, List.map_nil, hs, hx, hr]
  exact hK _ _ (h v' w' h1 h2 h3)

/-- 'append(s[:i], s[j:]...)': the row's own later cells, moved to its front. -/
theorem step_keys_cut {ops : Array Oper} {o : Oper} {a : Act} {W : World} {K : Act → World → Prop} {Q : Exit → Act → World → Prop} {E : Prop} (hgd : o.guard = none) (s x : Operand)
    (ho : o.op = .call { callee := .builtin .append, args := #[s, x], argTypes := #[26, 26] })
    (base g cap : Nat) (l : List ByteArray) (i : Nat) (hb : Ks W base (.slice (some ⟨g, 0, none⟩) l.length cap) l) (hi : i < l.length) (hs : a.eval s = .slice (some ⟨g, 0, none⟩) i cap)
    (ad : Addr) (c : Nat) (hx : a.eval x = .slice (some ad) (l.length - (i + 1)) c) (had : ad = ⟨g, i + 1, none⟩ ∨ l.length = i + 1)
    (h : ∀ w' z, Ks w' base (.slice (some ⟨g, 0, none⟩) l.length cap) (l.eraseIdx i ++ [z]) → Chg [g] W w' → K (a.put o.dst (.slice (some ⟨g, 0, none⟩) (l.length - 1) cap)) w') :
    if Region.wanted o (yielded ops a.tmps) = true then Oper.wp Try.prog o a W K Q else E := by
  have hw : Region.wanted o (yielded ops a.tmps) = true := by simp [Region.wanted, hgd]
  rw [if_pos hw]
  obtain ⟨i0, hi0, hz0, hz1, hz2⟩ := info_parts infoKey
  have hb' := hb
  rcases hb.2 with ⟨h', _⟩ | ⟨g', cap', cur, h', hbg, hg, hnc, hcm, hcs, htake⟩
  · simp at h'
  · simp only [Value.slice.injEq, Option.some.injEq, Addr.mk.injEq, and_true, true_and] at h'
    obtain ⟨rfl, rfl⟩ := h'
    have hnews : ∀ j u, ((l.drop (i + 1)).map Value.string)[j]? = some u → W.cell? (ad.add j) = some u := by
      intro j u hu
      have hj : j < l.length - (i + 1) := by
        have := (List.getElem?_eq_some_iff.1 hu).1
        simpa using this
      rcases had with rfl | he
      · rw [add_plain, World.ownsRow.cellAt hb' (i + 1 + j) (by omega)]
        rw [List.getElem?_map, List.getElem?_drop] at hu
        rw [List.getElem?_map]
        exact hu
      · omega
    have hr := run_append_room (P := Try.prog) W 26 o.type 9 i0 Try.underlying26 hi0 g i cap cur hg ad (l.length - (i + 1)) c ((l.drop (i + 1)).map Value.string) (by rw [hz1]; simp) hnews (key_one _) (by omega) (by rw [hz1, hcs]; simp; omega)
    rw [hz1] at hr
    unfold Oper.wp execOp
    simp only [ho, resolve, invoke, builtin, Sem.run_bind, Sem.run_pure, Result.andThen_ok, List.map_toArray, List.map_cons, List.map_nil, hs, hx, hr]
    have e1 : i + (l.length - (i + 1)) = l.length - 1 := by omega
    rw [e1]
    refine h _ (l.getD (l.length - 1) ⟨#[]⟩) ⟨by simp, .inr ⟨g, cap, _, ?_, hbg, setRow_heap W g cur _ _ _ hg, ?_, hcm, ?_, ?_⟩⟩ ⟨rfl, rfl, rfl, by simp [World.setRow], fun k _ hk => setRow_other W g k _ (fun e => hk (by simp [e]))⟩
    · simp [List.length_eraseIdx, hi]; omega
    · simp [List.length_eraseIdx, hi]; omega
    · simp; omega
    · rw [Nat.mul_one] at htake hcs ⊢
      have htk : cur.toList.take i = (l.take i).map Value.string := by
        rw [List.map_take, ← htake, List.take_take, Nat.min_eq_left (by omega)]
      have hlast : (cur.toList.drop (l.length - 1)).take 1 = [Value.string (l.getD (l.length - 1) ⟨#[]⟩)] := by
        have h1 : (cur.toList.take l.length)[l.length - 1]? = some (Value.string (l.getD (l.length - 1) ⟨#[]⟩)) := by
          rw [htake, List.getElem?_map, List.getD, List.getElem?_eq_getElem (by omega)]; rfl
        rw [List.getElem?_take_of_lt (by omega)] at h1
        have h2 := (List.getElem?_eq_some_iff.1 h1)
        obtain ⟨h3, h4⟩ := h2
        rw [List.drop_eq_getElem_cons h3, List.take_succ_cons, List.take_zero, h4]
      have hlen : (l.eraseIdx i ++ [l.getD (l.length - 1) ⟨#[]⟩]).length = l.length := by simp [List.length_eraseIdx, hi]; omega
      rw [hlen]
      have hlm : (List.map Value.string (List.drop (i + 1) l)).length = l.length - (i + 1) := by simp
      rw [hlm, Nat.mul_one i, show i + (l.length - (i + 1)) = l.length - 1 by omega, htk]
      show List.take l.length (List.map Value.string (List.take i l) ++ List.map Value.string (List.drop (i + 1) l) ++ List.drop (l.length - 1) cur.toList) = _
      rw [List.take_append, List.take_of_length_le (by simp; omega), List.length_append, List.length_map, List.length_map, List.length_take, List.length_drop, Nat.min_eq_left (by omega),
        show l.length - (i + (l.length - (i + 1))) = 1 by omega, hlast, List.map_append, List.eraseIdx_eq_take_drop_succ, List.map_append]
      rfl
/-- 'clear(s[n:])' of one cell. -/
theorem wp_keys_clear {ops : Array Oper} {rest : List Oper} {o : Oper} {a : Act} {Q : Exit → Act → World → Prop} (W : World) (hgd : o.guard = none) (x : Operand)
    (ho : o.op = .call { callee := .builtin .clear, args := #[x], argTypes := #[26] })
    (base g cap : Nat) (m : List ByteArray) (z : ByteArray) (c n n' : Nat) (hx : a.eval x = .slice (some ⟨g, n, none⟩) 1 c) (hmn : m.length = n) (hnn : n' = n + 1) (hm : Ks W base (.slice (some ⟨g, 0, none⟩) n' cap) (m ++ [z]))
    (h : ∀ w', Ks w' base (.slice (some ⟨g, 0, none⟩) n cap) m → Chg [g] W w' → wpList Try.prog ops Q rest (a.put o.dst (.tuple #[])) w') : wpList Try.prog ops Q (o :: rest) a W := by
  subst hmn hnn
  have hst : ∃ w', (Builtin.clear_ #[26] o.type #[.slice (some ⟨g, m.length, none⟩) 1 c]).run Try.prog W = .ok (.tuple #[]) w' ∧ Ks w' base (.slice (some ⟨g, 0, none⟩) m.length cap) m ∧ Chg [g] W w' := by
    rcases hm.2 with ⟨h', _⟩ | ⟨g', cap', cur, h', hb, hg, hnc, hcm, hcs, htake⟩
    · simp at h'
    · simp only [Value.slice.injEq, Option.some.injEq, Addr.mk.injEq, and_true] at h'
      obtain ⟨rfl, _, rfl⟩ := h'
      have hl : (m ++ [z]).length = m.length + 1 := by simp
      rw [hl] at htake hnc
      have hr := run_storeCells_at Try.prog g m.length 9 (Builtin.zeroCells (Value.string ⟨#[]⟩).cells 1).toList 0 cur W hg (by simp [Builtin.zeroCells, Value.cells]; omega) (by intro v hv; simp [Builtin.zeroCells, Value.cells] at hv; rw [hv]; rfl)
      refine ⟨_, by simp [Builtin.clear_, run_underlying Try.underlying26, hr]; rfl, ⟨by simp, .inr ⟨g, cap, _, rfl, hb, setRow_heap W g cur _ _ _ hg, by omega, hcm, ?_, ?_⟩⟩, ⟨rfl, rfl, rfl, by simp [World.setRow], fun k _ hk => setRow_other W g k _ (fun e => hk (by simp [e]))⟩⟩
      · simp [Builtin.zeroCells, Value.cells]; omega
      · dsimp only
        rw [Nat.mul_one, List.take_append_of_le_length (by simp; omega), List.take_take, Nat.min_self]
        have h9 : (cur.toList.take ((m.length + 1) * 1)).take m.length = ((m ++ [z]).map Value.string).take m.length := by rw [htake]
        rw [List.take_take, Nat.min_eq_left (by omega)] at h9
        rw [h9, List.map_append, List.take_append_of_le_length (by simp), List.take_of_length_le (by simp)]
  obtain ⟨w', hr, hS, hC⟩ := hst
  refine wpList_plain hgd fun K hK => ?_
  unfold Oper.wp execOp
  simp only [ho, resolve, invoke, builtin, Sem.run_bind, Sem.run_pure, Result.andThen_ok, List.map_toArray, List.map_cons, List.map_nil, hx, hr]
  exact hK _ _ (h w' hS hC)
end Go.Proofs.Ytbeldjijnjgbfaa

namespace Go.Proofs.Ytbeldjijnjgbfaa
open Go.RowKit Go.ChangeShapes Go.WideShapes Go.ChangeAt

theorem toList_inj {s t : ByteArray} (h : s.toList = t.toList) : s = t := by
  rw [ByteArray.toList_eq, ByteArray.toList_eq] at h
  have h2 : s.data = t.data := Array.toList_inj.1 h
  cases s; cases t; simp_all
theorem beq_key (s t : ByteArray) : (s.toList == t.toList) = decide (s = t) := by
  by_cases h : s = t
  · subst h; simp
  · have h2 : ¬ s.toList = t.toList := fun e => h (toList_inj e)
    rw [decide_eq_false h]
    simpa using h2

def hasK (l : List ByteArray) (k : ByteArray) : Bool := l.any fun x => decide (x = k)
theorem hasK_iff {l : List ByteArray} {k : ByteArray} : hasK l k = true ↔ k ∈ l := by
  unfold hasK
  rw [List.any_eq_true]
  exact ⟨fun ⟨x, h1, h2⟩ => by have := of_decide_eq_true h2; subst this; exact h1, fun h => ⟨k, h, decide_eq_true rfl⟩⟩
theorem hasK_not {l : List ByteArray} {k : ByteArray} : hasK l k = false ↔ k ∉ l := by rw [← hasK_iff]; simp
end Go.Proofs.Ytbeldjijnjgbfaa
