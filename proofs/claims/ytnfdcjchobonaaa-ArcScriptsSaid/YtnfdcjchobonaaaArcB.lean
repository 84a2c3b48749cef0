/-
  Contracts of a list's methods: size, has, add, take, takeOldest, moveOldest, step.
-/
import Derived.Test.YtnfdcjchobonaaaArcA
namespace Go.Proofs.Ytnfdcjchobonaaa
open Go.RowKit Go.ChangeShapes Go.WideShapes Go.ChangeAt

theorem size_list (b i n cap : Nat) (a : Option Addr) (w : World) (h : w.cell? ⟨b, i, none⟩ = some (.slice a n cap)) :
    Calls Try.prog 40 #[.pointer (some ⟨b, i, none⟩)] w fun e w' => e = .returned (.int .i64 (n : Int)) ∧ w = w' := by
  go_enter Try.func40, Try.ntmps40
  go_wp2
  go_ret
  exact ⟨rfl, rfl⟩

theorem has_list (b i : Nat) (hi : InA i) (v : Nat → Value) (d : ArcD) (k : ByteArray) (w : World) (h : ArcAt w b v d) (hlen : d.len ≤ 10000) :
    Calls Try.prog 32 #[.pointer (some ⟨b, i, none⟩), .string k] w fun e w' => e = .returned (.bool (hasA d i k)) ∧ w = w' := by
  have q0 := h.box.cell i _ (cellsA_at _ _ v hi)
  obtain ⟨a, cap, ev, hs⟩ := (h.row i hi).view
  rw [ev] at q0
  have hl := d.le_len hi
  have HC := Lib.hid (contains_keys a cap (d.l i) k w hs (by omega))
  clear h hs hl ev
  go_enter Try.func32, Try.ntmps32
  go_wp2_with fail
  refine HC.out.mono ?_
  rintro e w1 ⟨rfl, rfl⟩
  go_wp2
  go_ret
  exact ⟨rfl, rfl⟩

set_option maxHeartbeats 1000000 in
theorem add_list (b i : Nat) (hi : InA i) (v : Nat → Value) (d : ArcD) (k : ByteArray) (w : World) (h : ArcAt w b v d) (hlen : d.len ≤ 10000) :
    Calls Try.prog 26 #[.pointer (some ⟨b, i, none⟩), .string k] w fun e w' => e = .returned (.tuple #[]) ∧ Tod (ArcF b (addA d i k)) (fpA b v) w w' := by
  have q0 := h.box.cell i _ (cellsA_at _ _ v hi)
  have f0 := h.box.free i
  have hl := d.le_len hi
  have HA := Lib.hid h
  have HL := Lib.hid (show (d.l i).length + 1 ≤ 100000 by omega)
  have HK : Hid (∀ o, Ks (w.alloc o) 0 (v i) (d.l i)) := fun o => (h.row i hi).alloc o
  have HBX : Hid (∀ o, Box (w.alloc o) b 47 (cellsA d.c d.t v)) := fun o => h.box.alloc o
  clear h hl hlen
  go_enter Try.func26, Try.ntmps26
  go_wp2_with (at_builtin; refine wp_keys_push _ rfl _ _ rfl 0 (v i) (d.l i) rfl (HK.out _) ⟨w.heap.size, 0, none⟩ 1 1 [k] rfl rfl ?c1 HL.out (Nat.zero_le _) ?_)
  case c1 =>
    intro j u hu
    match j, hu with
    | 0, hu =>
      simp only [List.getElem?_cons_zero, Option.some.injEq] at hu
      subst hu
      exact boxed0 _ _ _ _ 0 _ rfl
  intro v' w1 hk hg hob
  obtain ⟨a', cap', rfl, _⟩ := hk.view
  have e9 : (d.l i ++ [k]).length = (d.l i).length + 1 := by simp
  rw [e9] at hk hob
  have hbx : Box w1 b 47 (cellsA d.c d.t v) := (HBX.out _).of (hg.block b (by rw [size_alloc]; have := HA.out.box.lt; omega) (fun e => HA.out.ne i hi e.symm))
  have q1 := hbx.cell i _ (cellsA_at _ _ v hi)
  have f1 := hbx.free i
  have hc : Chg (v i).ownBlock.toList w w1 := (Chg.of ((Below.refl _ _).alloc (Nat.le_refl _) _) (Nat.le_refl _)).trans (Chg.grown hg (fun k hk => by simpa using hk))
  have HT : Hid (Tod (ArcF b (addA d i k)) (fpA b v) w (w1.setCell ⟨b, i, none⟩ (.slice a' ((d.l i).length + 1) cap'))) := HA.out.put hi hc (fun k hk => by simpa using hk) hk (by
    rcases hob with h1 | h1
    · exact .inl h1
    · refine .inr (fun k hk => ?_)
      rw [h1] at hk
      injection hk with hk
      have := size_alloc w (Obj.cells #[] 0)
      omega)
  clear hk hg hob hbx hc q0 f0
  go_wp2
  go_end0
  exact ⟨rfl, HT.out⟩

set_option maxRecDepth 100000 in
set_option maxHeartbeats 1000000 in
theorem take_list (b i : Nat) (hi : InA i) (v : Nat → Value) (d : ArcD) (k : ByteArray) (w : World) (h : ArcAt w b v d) (hlen : d.len ≤ 10000) :
    Calls Try.prog 25 #[.pointer (some ⟨b, i, none⟩), .string k] w fun e w' => e = .returned (.bool (hasA d i k)) ∧ Tod (ArcF b (takeA d i k)) (fpA b v) w w' := by
  have q0 := h.box.cell i _ (cellsA_at _ _ v hi)
  have f0 := h.box.free i
  have hl := d.le_len hi
  have HA := Lib.hid h
  obtain ⟨a, cap, ev, hs⟩ := (h.row i hi).view
  rw [ev] at q0
  have hI0 := index_keys a cap (d.l i) k w hs (by omega)
  cases hh : hasA d i k
  · have hx : idxI (d.l i) k = -1 := by unfold idxI; unfold hasA at hh; rw [hh]; rfl
    rw [hx] at hI0
    have HI := Lib.hid hI0
    clear hI0
    have HT : Hid (Tod (ArcF b (takeA d i k)) (fpA b v) w w) := by
      have e : takeA d i k = d := by
        unfold takeA ArcD.put
        rw [drop_no k _ hh]
        have : updA d.l i (d.l i) = d.l := by funext j; by_cases e : j = i <;> simp [updA, e]
        rw [this]
      rw [e]
      exact Tod.same (fixed_arc b d) ⟨v, h, rfl⟩ (Below.refl _ _)
    clear h hs hl ev hx hlen hh
    go_enter Try.func25, Try.ntmps25
    go_wp2_with fail
    refine HI.out.mono ?_
    rintro e w1 ⟨rfl, rfl⟩
    go_wp2
    go_ret
    exact ⟨rfl, HT.out⟩
  · have hx : idxI (d.l i) k = (((d.l i).findIdx (fun x => decide (x = k)) : Nat) : Int) := by unfold idxI; unfold hasA at hh; rw [hh]; rfl
    obtain ⟨h1, h2⟩ := drop_idx k (d.l i) hh
    rw [hx] at hI0
    have HI := Lib.hid hI0
    clear hI0
    generalize (d.l i).findIdx (fun x => decide (x = k)) = n at *
    have HR := h.row i hi
    rcases HR.form with ⟨hv, hn⟩ | ⟨g, cap', hv, hg1, hg2, hg3, hg4⟩
    · rw [hn] at h1; simp at h1
    · rw [ev] at hv
      simp only [Value.slice.injEq, true_and] at hv
      obtain ⟨rfl, rfl⟩ := hv
      rw [ev] at HR
      have HD := Lib.hid (delete_keys 0 g cap (d.l i) n (n + 1) w HR h1 (by omega) rfl)
      have HEV := Lib.hid ev
      have H2 := Lib.hid h2
      have H1 := Lib.hid (show (n : Int) + 1 < 100000 by omega)
      have hn1 : decide ((n : Int) < 0) = false := by simp
      have hw : IntKind.i64.wrap ((n : Int) + 1) = (n : Int) + 1 := i64_small _ (by omega) (by omega)
      clear h hs hl hx hlen hh ev HR hg1 hg2 hg3 hg4 h1 h2
      go_enter Try.func25, Try.ntmps25
      go_wp2_with fail
      refine HI.out.mono ?_
      rintro e w1 ⟨rfl, rfl⟩
      go_wp2_with fail
      refine HD.out.mono ?_
      rintro e w2 ⟨rfl, hk, hc⟩
      have hob : (v i).ownBlock = some g := by rw [HEV.out]; rfl
      have hbx : Box w2 b 47 (cellsA d.c d.t v) := HA.out.box.of (hc.block b HA.out.box.lt (by intro hm; rw [List.mem_singleton] at hm; exact HA.out.ne i hi (by rw [hob, hm])))
      have q1 := hbx.cell i _ (cellsA_at _ _ v hi)
      have f1 := hbx.free i
      have HT : Hid (Tod (ArcF b (takeA d i k)) (fpA b v) w (w2.setCell ⟨b, i, none⟩ (.slice (some ⟨g, 0, none⟩) ((d.l i).length - 1) cap))) := by
        unfold takeA
        rw [H2.out]
        exact HA.out.put hi hc (fun k hk => by rw [List.mem_singleton] at hk; rw [hob, hk]) hk (.inl (by rw [hob]; rfl))
      clear hk hc hob hbx q0 f0
      go_wp2
      go_ret
      exact ⟨rfl, HT.out⟩

set_option maxHeartbeats 1000000 in
theorem old_list (b i : Nat) (hi : InA i) (v : Nat → Value) (d : ArcD) (w : World) (h : ArcAt w b v d) (hlen : d.len ≤ 10000) :
    Calls Try.prog 42 #[.pointer (some ⟨b, i, none⟩)] w fun e w' => e = .returned (.string (oldA d i).2) ∧ Tod (ArcF b (oldA d i).1) (fpA b v) w w' := by
  have q0 := h.box.cell i _ (cellsA_at _ _ v hi)
  obtain ⟨a, cap, ev, hs⟩ := (h.row i hi).view
  rw [ev] at q0
  have hl := d.le_len hi
  cases hd : d.l i with
  | nil =>
    have HT : Hid (Tod (ArcF b d) (fpA b v) w w) := Tod.same (fixed_arc b d) ⟨v, h, rfl⟩ (Below.refl _ _)
    have ho : oldA d i = (d, emp) := by unfold oldA; rw [hd]
    rw [ho]
    rw [hd] at q0
    simp only [List.length_nil] at q0
    clear h hs hl ev hlen hd ho
    go_enter Try.func42, Try.ntmps42
    go_wp2
    go_ret
    exact ⟨rfl, HT.out⟩
  | cons x r =>
    have ho : oldA d i = (d.put i r, x) := by unfold oldA; rw [hd]
    rw [ho]
    have HT := take_list b i hi v d x w h hlen
    have e1 : hasA d i x = true := hasK_iff.2 (by rw [hd]; simp)
    have e2 : takeA d i x = d.put i r := by unfold takeA; rw [hd, dropK, if_pos rfl]
    rw [e1, e2] at HT
    have HT := Lib.hid HT
    obtain ⟨g, off, rfl, hg, hc⟩ := hs (by rw [hd]; simp)
    have q1 := hc 0 x (by rw [hd]; rfl)
    rw [Nat.add_zero] at q1
    have hpos : ¬ (((d.l i).length : Int) == 0) = true := by rw [hd]; simp only [List.length_cons, beq_iff_eq]; omega
    have hpos1 : (0 : Int) < ((d.l i).length : Int) := by rw [hd]; simp only [List.length_cons]; omega
    have hpos2 : (((d.l i).length : Int) == 0) = false := by simpa using hpos
    generalize hn : (d.l i).length = n at *
    clear h hs hl ev hlen ho hd e1 e2 hpos hc hg hn
    go_enter Try.func42, Try.ntmps42
    go_wp2_with fail
    refine HT.out.mono ?_
    rintro e w1 ⟨rfl, ht⟩
    have HT2 := Lib.hid ht
    clear ht
    go_wp2
    go_ret
    exact ⟨rfl, HT2.out⟩
end Go.Proofs.Ytnfdcjchobonaaa
