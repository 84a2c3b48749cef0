/-
  The queue's own Push and Pop.
-/
import Derived.Test.YtgdlnifncmiebaaHeatB
import Derived.Handy
namespace Go.Proofs.Ytgdlnifncmiebaa
open Go.RowKit Go.ChangeShapes Go.WideShapes Go.ChangeAt

theorem itv_len : ∀ l : List ItD, (l.flatMap ItV).length = l.length * 2
  | [] => rfl
  | y :: l => by
    rw [List.flatMap_cons, List.length_append, itv_len l, List.length_cons]
    show 2 + l.length * 2 = _
    omega
/-- A row of items without its last one. -/
theorem Its.init {w : World} {base g cap n : Nat} {l : List ItD} {x : ItD} (h : Its w base (.slice (some ⟨g, 0, none⟩) n cap) (l ++ [x])) : Its w base (.slice (some ⟨g, 0, none⟩) l.length cap) l := by
  have hl := itv_len l
  rcases h.2 with ⟨k, _⟩ | ⟨g', c', cur, k, hg, hh, h1, h2, h3, h4⟩
  · simp at k
  · simp only [Value.slice.injEq, Option.some.injEq, Addr.mk.injEq] at k
    obtain ⟨⟨rfl, _⟩, _, rfl⟩ := k
    refine ⟨hl, .inr ⟨g, cap, cur, rfl, hg, hh, ?_, h2, h3, ?_⟩⟩
    · simp only [List.length_append, List.length_singleton] at h1
      omega
    · have h5 := congrArg (List.take (l.length * 2)) h4
      rw [List.take_take] at h5
      simp only [List.length_append, List.length_singleton] at h5
      rw [Nat.min_eq_left (by omega)] at h5
      rw [h5, List.flatMap_append, ← hl, List.take_left]

set_option maxRecDepth 100000 in
set_option maxHeartbeats 2000000 in
theorem qpop_any (b g cap : Nat) (l : List ItD) (x : ItD) (w : World) (h : QAt w b g cap (l ++ [x])) (hlen : l.length ≤ 100000) :
    Calls Try.prog 47 #[.pointer (some ⟨b, 0, none⟩)] w fun e w' => e = .returned (.iface 61 (.agg #[.string x.1, .int .i64 x.2])) ∧ QAt w' b g cap l ∧ Chg [b] w w' := by
  have HQ := Lib.hid h
  have c0 : w.cell? ⟨b, 0, none⟩ = some (.slice (some ⟨g, 0, none⟩) (l.length + 1) cap) := by
    have := h.box.cell 0 _ rfl
    simpa using this
  obtain ⟨x0, x1, _, _⟩ := h.row.cells (i := l.length) (x := x) (by simp)
  obtain ⟨n, hn⟩ : ∃ n, n = l.length := ⟨_, rfl⟩
  rw [← hn] at c0 x0 x1
  have w1 : wrap64 ((n : Int) + 1 - 1) = (n : Int) := by rw [IntWalk.wrap64_in _ (by omega)]; omega
  have w2 : wrap64 (n : Int) = (n : Int) := IntWalk.wrap64_in _ (by omega)
  have HN := Lib.hid hn
  have c3 : ∀ o, (w.alloc o).cell? ⟨b, 0, none⟩ = some (.slice (some ⟨g, 0, none⟩) (n + 1) cap) := fun o => (World.cell?_alloc_lt w o ⟨b, 0, none⟩ h.box.lt).trans c0
  have f3 : ∀ o, (w.alloc o).frozen? ⟨b, 0, none⟩ = false := fun o => (h.box.alloc o).free 0
  have hfb := h.box.free 0
  have hnc : ((n : Int).toNat) = n := by omega
  have hbs : w.heap.size ≠ b := Nat.ne_of_gt h.box.lt
  have B2 : ∀ v, Box ((w.alloc (.cells #[.string x.1, .int .i64 x.2] 61)).setCell ⟨b, 0, none⟩ v) w.heap.size 61 #[.string x.1, .int .i64 x.2] := fun v => (Box.new w _ _).of (heap_setCell_other _ _ _ _ hbs)
  have d0 := fun v => (B2 v).cell 0 _ rfl
  have d1 := fun v => (B2 v).cell 1 _ rfl
  have hcap : n ≤ cap := by
    rcases h.row.form with ⟨k, _⟩ | ⟨g', c', k, _, _, k3, _⟩
    · simp at k
    · simp only [Value.slice.injEq] at k
      obtain ⟨_, _, rfl⟩ := k
      simp only [List.length_append, List.length_singleton] at k3
      omega
  clear h hlen hn
  go_enter Try.func47, Try.ntmps47
  go_wp2_with fail
  go_ret
  have hq := HQ.out
  have hm := HN.out
  subst hm
  refine ⟨by simp, ⟨?_, ?_, hq.ne⟩, ?_⟩
  · exact (hq.box.alloc _).set 0 _
  · refine (Its.init hq.row).chg (S := [b]) ?_ ?_
    · exact ((Chg.refl _ _).alloc _).set b 0 _ (.inl (by simp))
    · intro k hk
      simp only [Value.ownBlock, Option.some.injEq] at hk
      subst hk
      simpa using hq.ne
  · exact ((Chg.refl _ _).alloc _).set b 0 _ (.inl (by simp))
end Go.Proofs.Ytgdlnifncmiebaa
