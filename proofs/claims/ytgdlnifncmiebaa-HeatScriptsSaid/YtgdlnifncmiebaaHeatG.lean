/-
  The queue's own Push.
-/
import Derived.Test.YtgdlnifncmiebaaHeatE
import Derived.Handy
namespace Go.Proofs.Ytgdlnifncmiebaa
open Go.RowKit Go.ChangeShapes Go.WideShapes Go.ChangeAt

theorem run_it_push (W : World) (ty : TypeId) (base : Nat) (v : Value) (l : List ItD) (hb : Its W base v l) (ad : Addr) (c : Nat) (p : ItD) (hcell : ∀ j u, (ItV p)[j]? = some u → W.cell? (ad.add j) = some u)
    (hbytes : l.length ≤ 100000) (hbase : base ≤ W.heap.size) :
    ∃ v' w', (Builtin.append_ #[67, 67] ty #[v, .slice (some ad) 1 c]).run Try.prog W = .ok v' w' ∧ Its w' base v' (l ++ [p]) ∧ W.grownBy w' v.ownBlock ∧ (v'.ownBlock = v.ownBlock ∨ v'.ownBlock = some W.heap.size) := by
  obtain ⟨i0, hi, hz0, hz1, hz2⟩ := info_parts infoIt
  have h1 : ∀ u ∈ ItV p, u.oneCell' = true := by
    intro u hu
    simp [ItV] at hu
    rcases hu with rfl | rfl <;> rfl
  obtain ⟨v', w', hr, hown, hg, _, hob⟩ := run_append_own_at (P := Try.prog) W base 67 ty 61 i0 (.agg #[.string ⟨#[]⟩, .int .i64 0]) 2 24 Try.underlying67 hi hz0 hz1 hz2 rfl (by decide) v l.length (l.flatMap ItV) hb ad 1 c (ItV p) rfl hcell h1 (by unfold maxLen; omega) (by omega) hbase
  refine ⟨v', w', hr, ?_, hg, hob⟩
  unfold Its
  rw [List.flatMap_append, List.length_append]
  exact hown
theorem step_it_push {ops : Array Oper} {o : Oper} {a : Act} {W : World} {K : Act → World → Prop} {Q : Exit → Act → World → Prop} {E : Prop} (hgd : o.guard = none) (s x : Operand)
    (ho : o.op = .call { callee := .builtin .append, args := #[s, x], argTypes := #[67, 67] })
    (base : Nat) (v : Value) (l : List ItD) (hs : a.eval s = v) (hb : Its W base v l)
    (ad : Addr) (c : Nat) (p : ItD) (hx : a.eval x = .slice (some ad) 1 c) (hcell : ∀ j u, (ItV p)[j]? = some u → W.cell? (ad.add j) = some u)
    (hbytes : l.length ≤ 100000) (hbase : base ≤ W.heap.size)
    (h : ∀ v' w', Its w' base v' (l ++ [p]) → W.grownBy w' v.ownBlock → (v'.ownBlock = v.ownBlock ∨ v'.ownBlock = some W.heap.size) → K (a.put o.dst v') w') :
    if Region.wanted o (yielded ops a.tmps) = true then Oper.wp Try.prog o a W K Q else E := by
  have hw : Region.wanted o (yielded ops a.tmps) = true := by simp [Region.wanted, hgd]
  rw [if_pos hw]
  obtain ⟨v', w', hr, h1, h2, h3⟩ := run_it_push W o.type base v l hb ad c p hcell hbytes hbase
  unfold Oper.wp execOp
  simp only [ho, resolve, invoke, builtin, Sem.run_bind, Sem.run_pure, Result.andThen_ok, List.map_toArray, List.map_cons, List.map_nil, hs, hx, hr]
  exact h v' w' h1 h2 h3
theorem ta_item (u : Value) (w : World) (s : TypeId) : (Instr.typeAssert (.iface 61 u) s 61 true).run Try.prog w = .ok (.tuple #[u, .bool true]) w := by kernel_rfl
theorem it_form {w : World} {v : Value} {l : List ItD} {x : ItD} {b : Nat} {cs : Array Value} (h : Its w 0 v (l ++ [x])) (hb : Box w b 67 cs) : ∃ g cap, v = .slice (some ⟨g, 0, none⟩) (l.length + 1) cap ∧ g ≠ b := by
  rcases h.2 with ⟨_, k⟩ | ⟨g, cap, cur, k, hg, hh, _⟩
  · simp at k
  · refine ⟨g, cap, by simpa using k, fun e => ?_⟩
    subst e
    unfold Box at hb
    rw [hb] at hh
    simp at hh
set_option maxRecDepth 100000 in
set_option maxHeartbeats 2000000 in
theorem qpush_any (b : Nat) (a : Option Addr) (n c : Nat) (l : List ItD) (x : ItD) (w : World) (h : Box w b 67 #[.slice a n c]) (hI : Its w 0 (.slice a n c) l) (hne : (Value.slice a n c).ownBlock ≠ some b) (hlen : l.length ≤ 100000) :
    Calls Try.prog 48 #[.pointer (some ⟨b, 0, none⟩), .iface 61 (.agg #[.string x.1, .int .i64 x.2])] w fun e w' => e = .returned (.tuple #[]) ∧ ∃ g cap, QAt w' b g cap (l ++ [x]) ∧ ((Value.slice a n c).ownBlock = some g ∨ w.heap.size ≤ g) ∧ Chg (b :: (Value.slice a n c).ownBlock.toList) w w' := by
  obtain ⟨S, hS⟩ : ∃ S, S = b :: (Value.slice a n c).ownBlock.toList := ⟨_, rfl⟩
  rw [← hS]
  have HS := Lib.hid hS
  have HQ := Lib.hid h
  have HI := Lib.hid hI
  have HNE := Lib.hid hne
  have HL := Lib.hid hlen
  have c0 : w.cell? ⟨b, 0, none⟩ = some (.slice a n c) := h.cell 0 _ rfl
  have c3 : ∀ o, (w.alloc o).cell? ⟨b, 0, none⟩ = some (.slice a n c) := fun o => (World.cell?_alloc_lt w o ⟨b, 0, none⟩ h.lt).trans c0
  clear h hI hlen hne hS
  go_enter Try.func48, Try.ntmps48
  have ht := ta_item (.agg #[.string x.1, .int .i64 x.2]) w
  go_wp2_with fail
  obtain ⟨w1, hw1⟩ : ∃ w1, w1 = w.alloc (.cells #[.string x.1, .int .i64 x.2] 61) := ⟨_, rfl⟩
  obtain ⟨P, hP⟩ : ∃ P, P = w.heap.size := ⟨_, rfl⟩
  have B1 : Hid (Box w1 P 61 #[.string x.1, .int .i64 x.2]) := by rw [hw1, hP]; exact Box.new _ _ _
  have Q1 : Hid (Box w1 b 67 #[.slice a n c]) := by rw [hw1]; exact HQ.out.alloc _
  have I1 : Hid (Its w1 0 (.slice a n c) l) := by rw [hw1]; exact HI.out.keep ((Below.refl _ _).alloc (Nat.le_refl _) _)
  have W1 : Hid (Chg S w w1) := by rw [hw1]; exact (Chg.refl _ _).alloc _
  rw [← hw1, ← hP]
  clear hw1 ht c0 c3 HQ HI hP
  have k1 : w1.cell? ⟨b, 0, none⟩ = some (.slice a n c) := Q1.out.cell 0 _ rfl
  have k2 : w1.cell? ⟨P, 0, none⟩ = some (.string x.1) := B1.out.cell 0 _ rfl
  have k3 : w1.cell? ⟨P, 1, none⟩ = some (.int .i64 x.2) := B1.out.cell 1 _ rfl
  have m1 : ∀ o, (w1.alloc o).cell? ⟨b, 0, none⟩ = some (.slice a n c) := fun o => (Q1.out.alloc o).cell 0 _ rfl
  have m2 : ∀ o, (w1.alloc o).cell? ⟨P, 0, none⟩ = some (.string x.1) := fun o => (B1.out.alloc o).cell 0 _ rfl
  have m3 : ∀ o, (w1.alloc o).cell? ⟨P, 1, none⟩ = some (.int .i64 x.2) := fun o => (B1.out.alloc o).cell 1 _ rfl
  go_region_law (refine step_it_push rfl (.tmp 15) (.tmp 17) rfl 0 (.slice a n c) l (by simp [Act.eval]) (by exact I1.out.keep ((Below.refl _ _).alloc (Nat.le_refl _) _).drew) ⟨w1.heap.size, 0, none⟩ 1 x (by simp [Act.eval]) (by intro j u hj; match j, hj with | 0, hj => (simp [ItV] at hj; subst hj; exact (Box.new w1 _ _).cell 0 _ rfl) | 1, hj => (simp [ItV] at hj; subst hj; exact (Box.new w1 _ _).cell 1 _ rfl) | (j + 2), hj => (simp [ItV] at hj)) HL.out (Nat.zero_le _) ?_; intro v5 w5 hp5 hg5 ho5; have hx5 : Box w5 b 67 #[.slice a n c] := (Q1.out.alloc _).of (hg5.block b (Q1.out.alloc _).lt (fun e => HNE.out e.symm)); obtain ⟨g5, c5, rfl, hn5⟩ := it_form hp5 hx5; have hc5 := hx5.cell 0 _ rfl; have hf5 := hx5.free 0; have HX5 := Lib.hid hx5; have C5 : Hid (Chg S w w5) := (W1.out.alloc _).trans (Chg.trans (Chg.refl _ _).drew (Chg.grown hg5 (fun k hk => by rw [HS.out, hk]; simp))); have P5 := Lib.hid hp5; have N5 := Lib.hid hn5; have O5 : Hid ((Value.slice a n c).ownBlock = some g5 ∨ w.heap.size ≤ g5) := (by rcases ho5 with ho5 | ho5; exact .inl ho5.symm; (refine .inr ?_; simp only [Value.ownBlock, Option.some.injEq] at ho5; have h8 := W1.out.size; have h9 : w1.heap.size ≤ g5 := (by rw [ho5]; exact ((Below.refl _ w1).alloc (Nat.le_refl _) _).drew.size); omega)); clear hx5 hp5 hg5 hn5 ho5)
  all_goals
    have HE : Hid (QAt (w5.setCell ⟨b, 0, none⟩ (.slice (some ⟨g5, 0, none⟩) (l.length + 1) c5)) b g5 c5 (l ++ [x])) := by
      have hl : (l ++ [x]).length = l.length + 1 := by simp
      refine ⟨?_, ?_, N5.out⟩
      · rw [hl]; exact HX5.out.set 0 _
      · rw [hl]
        refine P5.out.chg (S := [b]) ((Chg.refl _ _).set b 0 _ (.inl (by simp))) ?_
        intro k hk
        simp only [Value.ownBlock, Option.some.injEq] at hk
        subst hk
        simpa using N5.out
    have HC : Hid (Chg S w (w5.setCell ⟨b, 0, none⟩ (.slice (some ⟨g5, 0, none⟩) (l.length + 1) c5))) := C5.out.set b 0 _ (.inl (by rw [HS.out]; simp))
    go_wp2
    go_end0
    exact ⟨rfl, g5, c5, HE.out, O5.out, HC.out⟩
end Go.Proofs.Ytgdlnifncmiebaa
