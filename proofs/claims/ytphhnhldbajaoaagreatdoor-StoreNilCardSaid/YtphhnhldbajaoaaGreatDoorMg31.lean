/-
  Texts put together: ArcB, ArcC, ArcD, ArcE.
-/
import Derived.Test.YtphhnhldbajaoaaGreatDoorMg30
import Derived.Test.YtphhnhldbajaoaaGreatDoorMg4
import Derived.StillTailTactics
namespace Go.Proofs.YtphhnhldbajaoaaGreatDoor
open Go.RowKit Go.ChangeShapes Go.WideShapes Go.ChangeAt

set_option maxRecDepth 100000 in
theorem size_list (b i n cap : Nat) (a : Option Addr) (w : World) (h : w.cell? ⟨b, i, none⟩ = some (.slice a n cap)) :
    Calls Tryz.prog 159 #[.pointer (some ⟨b, i, none⟩)] w fun e w' => e = .returned (.int .i64 (n : Int)) ∧ w = w' := by
  go_enter Tryz.func159, Tryz.ntmps159
  go_wp2
  go_ret
  exact ⟨rfl, rfl⟩

set_option maxRecDepth 100000 in
theorem has_list (b i : Nat) (hi : InA i) (v : Nat → Value) (d : ArcD) (k : ByteArray) (w : World) (h : ArcAt w b v d) (hlen : d.len ≤ 10000) :
    Calls Tryz.prog 127 #[.pointer (some ⟨b, i, none⟩), .string k] w fun e w' => e = .returned (.bool (hasA d i k)) ∧ w = w' := by
  have q0 := h.box.cell i _ (cellsA_at _ _ v hi)
  obtain ⟨a, cap, ev, hs⟩ := (h.row i hi).view
  rw [ev] at q0
  have hl := d.le_len hi
  have HC := Lib.hid (contains_keys a cap (d.l i) k w hs (by omega))
  clear h hs hl ev
  go_enter Tryz.func127, Tryz.ntmps127
  go_wp2_with fail
  refine HC.out.mono ?_
  rintro e w1 ⟨rfl, rfl⟩
  go_wp2
  go_ret
  exact ⟨rfl, rfl⟩

set_option maxRecDepth 100000 in
set_option maxHeartbeats 1000000 in
theorem add_list (b i : Nat) (hi : InA i) (v : Nat → Value) (d : ArcD) (k : ByteArray) (w : World) (h : ArcAt w b v d) (hlen : d.len ≤ 10000) :
    Calls Tryz.prog 119 #[.pointer (some ⟨b, i, none⟩), .string k] w fun e w' => e = .returned (.tuple #[]) ∧ Tod (ArcF b (addA d i k)) (fpA b v) w w' := by
  have q0 := h.box.cell i _ (cellsA_at _ _ v hi)
  have f0 := h.box.free i
  have hl := d.le_len hi
  have HA := Lib.hid h
  have HL := Lib.hid (show (d.l i).length + 1 ≤ 2000000 by omega)
  have HK : Hid (∀ o, Ks (w.alloc o) 0 (v i) (d.l i)) := fun o => (h.row i hi).alloc o
  have HBX : Hid (∀ o, Box (w.alloc o) b 155 (cellsA d.c d.t v)) := fun o => h.box.alloc o
  clear h hl hlen
  go_enter Tryz.func119, Tryz.ntmps119
  go_wp2_with (at_builtin; refine wp_keys_push _ rfl _ _ rfl 0 (v i) (d.l i) rfl (HK.out _) ⟨w.heap.size, 0, none⟩ 1 1 [k] rfl rfl ?c1 HL.out (Nat.zero_le _) ?_)
  case c1 =>
    intro j u hu
    match j, hu with
    | 0, hu =>
      simp only [List.getElem?_cons_zero, Option.some.injEq] at hu
      subst hu
      exact boxed0 _ _ _ _ 0 _ rfl
  intro v' w1 hk hg hob
  obtain ⟨a', cap', rfl, _⟩ := hk.view
  have e9 : (d.l i ++ [k]).length = (d.l i).length + 1 := by simp
  rw [e9] at hk hob
  have hbx : Box w1 b 155 (cellsA d.c d.t v) := (HBX.out _).of (hg.block b (by rw [size_alloc]; have := HA.out.box.lt; omega) (fun e => HA.out.ne i hi e.symm))
  have q1 := hbx.cell i _ (cellsA_at _ _ v hi)
  have f1 := hbx.free i
  have hc : Chg (v i).ownBlock.toList w w1 := (Chg.of ((Below.refl _ _).alloc (Nat.le_refl _) _) (Nat.le_refl _)).trans (Chg.grown hg (fun k hk => by simpa using hk))
  have HT : Hid (Tod (ArcF b (addA d i k)) (fpA b v) w (w1.setCell ⟨b, i, none⟩ (.slice a' ((d.l i).length + 1) cap'))) := HA.out.put hi hc (fun k hk => by simpa using hk) hk (by
    rcases hob with h1 | h1
    · exact .inl h1
    · refine .inr (fun k hk => ?_)
      rw [h1] at hk
      injection hk with hk
      have := size_alloc w (Obj.cells #[] 0)
      omega)
  clear hk hg hob hbx hc q0 f0
  go_wp2
  go_end0
  exact ⟨rfl, HT.out⟩

set_option maxRecDepth 100000 in
set_option maxHeartbeats 1000000 in
theorem take_list (b i : Nat) (hi : InA i) (v : Nat → Value) (d : ArcD) (k : ByteArray) (w : World) (h : ArcAt w b v d) (hlen : d.len ≤ 10000) :
    Calls Tryz.prog 118 #[.pointer (some ⟨b, i, none⟩), .string k] w fun e w' => e = .returned (.bool (hasA d i k)) ∧ Tod (ArcF b (takeA d i k)) (fpA b v) w w' := by
  have q0 := h.box.cell i _ (cellsA_at _ _ v hi)
  have f0 := h.box.free i
  have hl := d.le_len hi
  have HA := Lib.hid h
  obtain ⟨a, cap, ev, hs⟩ := (h.row i hi).view
  rw [ev] at q0
  have hI0 := index_keys a cap (d.l i) k w hs (by omega)
  cases hh : hasA d i k
  · have hx : idxI (d.l i) k = -1 := by unfold idxI; unfold hasA at hh; rw [hh]; rfl
    rw [hx] at hI0
    have HI := Lib.hid hI0
    clear hI0
    have HT : Hid (Tod (ArcF b (takeA d i k)) (fpA b v) w w) := by
      have e : takeA d i k = d := by
        unfold takeA ArcD.put
        rw [drop_no k _ hh]
        have : updA d.l i (d.l i) = d.l := by funext j; by_cases e : j = i <;> simp [updA, e]
        rw [this]
      rw [e]
      exact Tod.same (fixed_arc b d) ⟨v, h, rfl⟩ (Below.refl _ _)
    clear h hs hl ev hx hlen hh
    go_enter Tryz.func118, Tryz.ntmps118
    go_wp2_with fail
    refine HI.out.mono ?_
    rintro e w1 ⟨rfl, rfl⟩
    go_wp2
    go_ret
    exact ⟨rfl, HT.out⟩
  · have hx : idxI (d.l i) k = (((d.l i).findIdx (fun x => decide (x = k)) : Nat) : Int) := by unfold idxI; unfold hasA at hh; rw [hh]; rfl
    obtain ⟨h1, h2⟩ := drop_idx k (d.l i) hh
    rw [hx] at hI0
    have HI := Lib.hid hI0
    clear hI0
    generalize (d.l i).findIdx (fun x => decide (x = k)) = n at *
    have HR := h.row i hi
    rcases HR.form with ⟨hv, hn⟩ | ⟨g, cap', hv, hg1, hg2, hg3, hg4⟩
    · rw [hn] at h1; simp at h1
    · rw [ev] at hv
      simp only [Value.slice.injEq, true_and] at hv
      obtain ⟨rfl, rfl⟩ := hv
      rw [ev] at HR
      have HD := Lib.hid (delete_keys 0 g cap (d.l i) n (n + 1) w HR h1 (by omega) rfl)
      have HEV := Lib.hid ev
      have H2 := Lib.hid h2
      have H1 := Lib.hid (show (n : Int) + 1 < 100000 by omega)
      have hn1 : decide ((n : Int) < 0) = false := by simp
      have hw : IntKind.i64.wrap ((n : Int) + 1) = (n : Int) + 1 := i64_small _ (by omega) (by omega)
      clear h hs hl hx hlen hh ev HR hg1 hg2 hg3 hg4 h1 h2
      go_enter Tryz.func118, Tryz.ntmps118
      go_wp2_with fail
      refine HI.out.mono ?_
      rintro e w1 ⟨rfl, rfl⟩
      go_wp2_with fail
      refine HD.out.mono ?_
      rintro e w2 ⟨rfl, hk, hc⟩
      have hob : (v i).ownBlock = some g := by rw [HEV.out]; rfl
      have hbx : Box w2 b 155 (cellsA d.c d.t v) := HA.out.box.of (hc.block b HA.out.box.lt (by intro hm; rw [List.mem_singleton] at hm; exact HA.out.ne i hi (by rw [hob, hm])))
      have q1 := hbx.cell i _ (cellsA_at _ _ v hi)
      have f1 := hbx.free i
      have HT : Hid (Tod (ArcF b (takeA d i k)) (fpA b v) w (w2.setCell ⟨b, i, none⟩ (.slice (some ⟨g, 0, none⟩) ((d.l i).length - 1) cap))) := by
        unfold takeA
        rw [H2.out]
        exact HA.out.put hi hc (fun k hk => by rw [List.mem_singleton] at hk; rw [hob, hk]) hk (.inl (by rw [hob]; rfl))
      clear hk hc hob hbx q0 f0
      go_wp2
      go_ret
      exact ⟨rfl, HT.out⟩

set_option maxRecDepth 100000 in
set_option maxHeartbeats 1000000 in
theorem old_list (b i : Nat) (hi : InA i) (v : Nat → Value) (d : ArcD) (w : World) (h : ArcAt w b v d) (hlen : d.len ≤ 10000) :
    Calls Tryz.prog 161 #[.pointer (some ⟨b, i, none⟩)] w fun e w' => e = .returned (.string (oldA d i).2) ∧ Tod (ArcF b (oldA d i).1) (fpA b v) w w' := by
  have q0 := h.box.cell i _ (cellsA_at _ _ v hi)
  obtain ⟨a, cap, ev, hs⟩ := (h.row i hi).view
  rw [ev] at q0
  have hl := d.le_len hi
  cases hd : d.l i with
  | nil =>
    have HT : Hid (Tod (ArcF b d) (fpA b v) w w) := Tod.same (fixed_arc b d) ⟨v, h, rfl⟩ (Below.refl _ _)
    have ho : oldA d i = (d, empA) := by unfold oldA; rw [hd]
    rw [ho]
    rw [hd] at q0
    simp only [List.length_nil] at q0
    clear h hs hl ev hlen hd ho
    go_enter Tryz.func161, Tryz.ntmps161
    go_wp2
    go_ret
    exact ⟨rfl, HT.out⟩
  | cons x r =>
    have ho : oldA d i = (d.put i r, x) := by unfold oldA; rw [hd]
    rw [ho]
    have HT := take_list b i hi v d x w h hlen
    have e1 : hasA d i x = true := hasK_iff.2 (by rw [hd]; simp)
    have e2 : takeA d i x = d.put i r := by unfold takeA; rw [hd, dropK, if_pos rfl]
    rw [e1, e2] at HT
    have HT := Lib.hid HT
    obtain ⟨g, off, rfl, hg, hc⟩ := hs (by rw [hd]; simp)
    have q1 := hc 0 x (by rw [hd]; rfl)
    rw [Nat.add_zero] at q1
    have hpos : ¬ (((d.l i).length : Int) == 0) = true := by rw [hd]; simp only [List.length_cons, beq_iff_eq]; omega
    have hpos1 : (0 : Int) < ((d.l i).length : Int) := by rw [hd]; simp only [List.length_cons]; omega
    have hpos2 : (((d.l i).length : Int) == 0) = false := by simpa using hpos
    generalize hn : (d.l i).length = n at *
    clear h hs hl ev hlen ho hd e1 e2 hpos hc hg hn
    go_enter Tryz.func161, Tryz.ntmps161
    go_wp2_with fail
    refine HT.out.mono ?_
    rintro e w1 ⟨rfl, ht⟩
    have HT2 := Lib.hid ht
    clear ht
    go_wp2
    go_ret
    exact ⟨rfl, HT2.out⟩
end Go.Proofs.YtphhnhldbajaoaaGreatDoor

namespace Go.Proofs.YtphhnhldbajaoaaGreatDoor
open Go.RowKit Go.ChangeShapes Go.WideShapes Go.ChangeAt

theorem Tod.seq {Q2 : List Nat → World → Prop} {F F1 : List Nat} {w w1 w2 : World} (hc : Chg F w w1) (hf : ∀ k ∈ F1, k ∈ F ∨ w.heap.size ≤ k) (k : Tod Q2 F1 w1 w2) : Tod Q2 F w w2 := by
  obtain ⟨F2, k1, k2, k3⟩ := k
  refine ⟨F2, k1, hc.then k2 hf, fun i hi => ?_⟩
  rcases k3 i hi with h4 | h4
  · exact hf i h4
  · exact .inr (Nat.le_trans hc.size h4)
theorem old_len (d : ArcD) {i : Nat} (hi : InA i) : (oldA d i).1.len ≤ d.len := by
  unfold oldA
  cases h : d.l i with
  | nil => exact Nat.le_refl _
  | cons x r =>
    have := d.len_put hi r
    rw [h] at this
    simp only [List.length_cons] at this
    show (d.put i r).len ≤ _
    omega
theorem add_len (d : ArcD) {i : Nat} (hi : InA i) (k : ByteArray) : (addA d i k).len = d.len + 1 := by
  have := d.len_put hi (d.l i ++ [k])
  simp only [List.length_append, List.length_cons, List.length_nil] at this
  unfold addA
  omega
theorem take_len (d : ArcD) {i : Nat} (hi : InA i) (k : ByteArray) : (takeA d i k).len ≤ d.len := by
  have := d.len_put hi (dropK (d.l i) k)
  have := drop_len k (d.l i)
  unfold takeA
  omega
theorem str_emp {s : ByteArray} (h : s ≠ empA) : s.toList.isEmpty = false ∧ ¬ s.toList = [] := by
  have hs : 0 < s.size := by
    rcases Nat.eq_zero_or_pos s.size with h0 | h0
    · exact absurd (ByteArray.ext (Array.eq_empty_of_size_eq_zero h0)) h
    · exact h0
  exact ⟨(str_some s hs).2, (str_some s hs).1⟩

set_option maxHeartbeats 1000000 in
theorem move_list (b i j : Nat) (hi : InA i) (hj : InA j) (F : List Nat) (d : ArcD) (w : World) (h : ArcF b d F w) (hlen : d.len ≤ 10000) :
    Calls Tryz.prog 173 #[.pointer (some ⟨b, i, none⟩), .pointer (some ⟨b, j, none⟩)] w fun e w' => e = .returned (.string (moveA d i j).2) ∧ Tod (ArcF b (moveA d i j).1) F w w' := by
  obtain ⟨v, h, rfl⟩ := h
  have HO := Lib.hid (old_list b i hi v d w h hlen)
  have HL := Lib.hid (Nat.le_trans (old_len d hi) hlen)
  obtain ⟨M, hM⟩ : ∃ M, M = moveA d i j := ⟨_, rfl⟩
  rw [← hM]
  have HM : Hid (M = if (oldA d i).2 = empA then oldA d i else (addA (oldA d i).1 j (oldA d i).2, (oldA d i).2)) := hM
  clear hM h hlen
  generalize oldA d i = o at *
  obtain ⟨d1, k⟩ := o
  dsimp only at HO HM HL
  go_enter Tryz.func173, Tryz.ntmps173
  go_wp2_with fail
  refine HO.out.mono ?_
  rintro e w1 ⟨rfl, ht⟩
  have HT := Lib.hid ht
  clear ht
  by_cases hk : k = empA
  · have HM2 : Hid (M = (d1, k)) := by rw [if_pos hk] at HM; exact HM
    subst hk
    go_wp2
    go_ret
    rw [HM2.out]
    exact ⟨rfl, HT.out⟩
  · have HM2 : Hid (M = (addA d1 j k, k)) := by rw [if_neg hk] at HM; exact HM
    obtain ⟨F1, ⟨v1, h1, rfl⟩, hc1, hf1⟩ := HT.out
    have HA := Lib.hid (add_list b j hj v1 d1 k w1 h1 HL.out)
    have HC1 := Lib.hid hc1
    have HF1 := Lib.hid hf1
    obtain ⟨e1, e2⟩ := str_emp hk
    clear hk h1 hc1 hf1 HT HM HO
    go_wp2_with fail
    refine HA.out.mono ?_
    rintro e w2 ⟨rfl, ht2⟩
    have HT2 := Lib.hid (Tod.seq HC1.out HF1.out ht2)
    clear ht2
    go_wp2
    go_ret
    rw [HM2.out]
    exact ⟨rfl, HT2.out⟩

theorem div_small (n m : Nat) (hn : n ≤ 10000) : 0 ≤ (n : Int) / (m : Int) ∧ (n : Int) / (m : Int) ≤ 10000 := by
  have hle : n / m ≤ 10000 := Nat.le_trans (Nat.div_le_self n m) hn
  rw [← Int.natCast_ediv]
  exact ⟨Int.natCast_nonneg _, Int.le_trans (Int.ofNat_le.2 hle) (by decide)⟩
set_option maxRecDepth 100000 in
set_option maxHeartbeats 1000000 in
theorem step_list (b i m c n cap : Nat) (a a' : Option Addr) (w : World) (h : w.cell? ⟨b, i, none⟩ = some (.slice a' m c)) (hm : 1 ≤ m) (hn : n ≤ 10000) :
    Calls Tryz.prog 141 #[.pointer (some ⟨b, i, none⟩), .agg #[.slice a n cap]] w fun e w' => e = .returned (.int .i64 (max 1 ((n / m : Nat) : Int))) ∧ Below w.heap.size w w' := by
  have HB : Hid (∀ o, Below w.heap.size w (w.alloc o)) := fun o => (Below.refl _ _).alloc (Nat.le_refl _) o
  have HQ : Hid (∀ o, (w.alloc o).cell? ⟨b, i, none⟩ = some (.slice a' m c)) := fun o => ((HB.out o).cell (p := ⟨b, i, none⟩) (lt_of_cell h)).trans h
  have HS := fun o => Lib.hid (size_list w.heap.size 0 n cap a (w.alloc (.cells #[.slice a n cap] o)) (boxed0 _ _ _ _ 0 _ rfl))
  have HS2 := fun o => Lib.hid (size_list b i m c a' (w.alloc o) (HQ.out o))
  clear h
  have hm0 : ¬ ((m : Int) = 0) := by omega
  have hmb : ((m : Int) == 0) = false := by simpa using hm0
  have hdv : (n : Int).tdiv (m : Int) = (n : Int) / (m : Int) := Int.tdiv_eq_ediv_of_nonneg (by omega)
  obtain ⟨d1, d2⟩ := div_small n m hn
  have hw : wrap64 ((n : Int) / (m : Int)) = (n : Int) / (m : Int) := IntWalk.wrap64_in _ (by omega)
  rw [Int.natCast_ediv]
  generalize (n : Int) / (m : Int) = q at *
  go_enter Tryz.func141, Tryz.ntmps141
  go_wp2_with fail
  refine (HS _).out.mono ?_
  rintro e w1 ⟨rfl, rfl⟩
  go_wp2_with fail
  refine (HS2 _).out.mono ?_
  rintro e w1 ⟨rfl, rfl⟩
  go_wp2_with fail
  all_goals (go_ret; exact ⟨ret_int (by omega), HB.out _⟩)

/-- Where the two lists are told. -/
def TwoP (w : World) (g b i j : Nat) : Prop := Box w g 167 #[.pointer (some ⟨b, i, none⟩), .pointer (some ⟨b, j, none⟩)]
theorem take_no {d : ArcD} {m : Nat} {k : ByteArray} (hh : hasA d m k = false) : takeA d m k = d := by
  unfold takeA ArcD.put
  rw [drop_no k _ hh]
  have : updA d.l m (d.l m) = d.l := by funext j; by_cases e : j = m <;> simp [updA, e]
  rw [this]

set_option maxRecDepth 100000 in
set_option maxHeartbeats 1000000 in
theorem some_take (g b i j : Nat) (hi : InA i) (hj : InA j) (F : List Nat) (d : ArcD) (k : ByteArray) (w : World) (h : ArcF b d F w) (hlen : d.len ≤ 10000) (hg : TwoP w g b i j) (hgF : g ∉ F) :
    Calls Tryz.prog 117 #[.func (.func 118) #[] #[], .string k, .slice (some ⟨g, 0, none⟩) 2 2] w fun e w' => e = .returned (.bool (someA d i j k).2) ∧ Tod (ArcF b (someA d i j k).1) F w w' := by
  obtain ⟨M, hM⟩ : ∃ M, M = someA d i j k := ⟨_, rfl⟩
  rw [← hM]
  have HM : Hid (M = if hasA d i k = true then (takeA d i k, true) else if hasA d j k = true then (takeA d j k, true) else (d, false)) := hM
  clear hM
  have H0 : Hid (Tod (ArcF b d) F w w) := Tod.same (fixed_arc b d) h (Below.refl _ _)
  have HTk : Hid (∀ m, InA m → ∀ wr, Tod (ArcF b d) F w wr → TwoP wr g b i j → Calls Tryz.prog 118 #[.pointer (some ⟨b, m, none⟩), .string k] wr fun e w' => e = .returned (.bool (hasA d m k)) ∧ Tod (ArcF b (takeA d m k)) F w w' ∧ TwoP w' g b i j) := by
    intro m hm wr ht hgr
    obtain ⟨F1, ⟨v1, h1, rfl⟩, hc1, hf1⟩ := ht
    refine (take_list b m hm v1 d k wr h1 hlen).mono ?_
    rintro e w2 ⟨rfl, ht2⟩
    refine ⟨rfl, Tod.seq hc1 hf1 ht2, ?_⟩
    obtain ⟨F2, _, hc2, _⟩ := ht2
    refine Box.of hgr (hc2.block g hgr.lt (fun hm => ?_))
    rcases hf1 g hm with h5 | h5
    · exact hgF h5
    · have := hg.lt; omega
  have HG := Lib.hid hg
  have HI := Lib.hid hi
  have HJ := Lib.hid hj
  clear h hg hgF hlen hi hj
  go_enter Tryz.func117, Tryz.ntmps117
  go_wp2
  go_loopw [8, 11] (fun _ s wr => ∃ n : Nat, n ≤ 2 ∧ s = .int .i64 n ∧ Hid (1 ≤ n → hasA d i k = false) ∧ Hid (2 ≤ n → hasA d j k = false) ∧ Hid (Tod (ArcF b d) F w wr) ∧ Hid (TwoP wr g b i j)) (fun _ s _ => 2 - (intOf s).toNat)
  case atStart => exact ⟨0, by omega, rfl, fun h => by omega, fun h => by omega, H0, HG⟩
  case round =>
    rename_i hkl1
    obtain ⟨n, hn, rfl, HNI, HNJ, HT, HGr⟩ := hrel
    rcases (by omega : n = 0 ∨ n = 1 ∨ n = 2) with rfl | rfl | rfl
    · have q0 := Box.cell HGr.out 0 _ rfl
      clear hkl1
      go_wp2_with fail
      refine (HTk.out i HI.out wr HT.out HGr.out).mono ?_
      rintro e w1 ⟨rfl, ht, hgg⟩
      have HT1 := Lib.hid ht
      have HG1 := Lib.hid hgg
      clear ht hgg
      cases hh : hasA d i k
      · have HNN := Lib.hid hh
        rw [take_no hh] at HT1
        clear hh
        go_wp2
        go_roundw
        case rel => exact ⟨1, by omega, rfl, fun _ => HNN.out, fun h => by omega, HT1, HG1⟩
        case measure => simp [intOf]
      · have HM2 : Hid (M = (takeA d i k, true)) := by rw [if_pos hh] at HM; exact HM
        clear hh
        go_wp2
        go_ret
        rw [HM2.out]
        exact ⟨rfl, HT1.out⟩
    · have q0 := Box.cell HGr.out 1 _ rfl
      clear hkl1
      go_wp2_with fail
      refine (HTk.out j HJ.out wr HT.out HGr.out).mono ?_
      rintro e w1 ⟨rfl, ht, hgg⟩
      have HT1 := Lib.hid ht
      have HG1 := Lib.hid hgg
      clear ht hgg
      cases hh : hasA d j k
      · have HNN := Lib.hid hh
        rw [take_no hh] at HT1
        clear hh
        go_wp2
        go_roundw
        case rel => exact ⟨2, by omega, rfl, fun _ => HNI.out (by omega), fun h => HNN.out, HT1, HG1⟩
        case measure => simp [intOf]
      · have HM2 : Hid (M = (takeA d j k, true)) := by show _ = _; rw [HM.out, HNI.out (by omega), hh]; rfl
        clear hh
        go_wp2
        go_ret
        rw [HM2.out]
        exact ⟨rfl, HT1.out⟩
    · have HM2 : Hid (M = (d, false)) := by show _ = _; rw [HM.out, HNI.out (by omega), HNJ.out (by omega)]; rfl
      go_wp2
      go_ret
      rw [HM2.out]
      exact ⟨rfl, HT.out⟩

set_option maxRecDepth 100000 in
set_option maxHeartbeats 1000000 in
theorem some_has (g b i j : Nat) (hi : InA i) (hj : InA j) (v : Nat → Value) (d : ArcD) (k : ByteArray) (w : World) (h : ArcAt w b v d) (hlen : d.len ≤ 10000) (hg : TwoP w g b i j) :
    Calls Tryz.prog 117 #[.func (.func 127) #[] #[], .string k, .slice (some ⟨g, 0, none⟩) 2 2] w fun e w' => e = .returned (.bool (hasA d i k || hasA d j k)) ∧ w = w' := by
  obtain ⟨M, hM⟩ : ∃ M, M = (hasA d i k || hasA d j k) := ⟨_, rfl⟩
  rw [← hM]
  have HM := Lib.hid hM
  clear hM
  have HTi := Lib.hid (has_list b i hi v d k w h hlen)
  have HTj := Lib.hid (has_list b j hj v d k w h hlen)
  have q0 := Box.cell hg 0 _ rfl
  have q1 := Box.cell hg 1 _ rfl
  clear h hg hlen hi hj
  go_enter Tryz.func117, Tryz.ntmps117
  go_wp2
  go_loopw [8, 11] (fun _ s wr => ∃ n : Nat, n ≤ 2 ∧ s = .int .i64 n ∧ Hid (1 ≤ n → hasA d i k = false) ∧ Hid (2 ≤ n → hasA d j k = false) ∧ wr = w) (fun _ s _ => 2 - (intOf s).toNat)
  case atStart => exact ⟨0, by omega, rfl, fun h => by omega, fun h => by omega, rfl⟩
  case round =>
    rename_i hkl1
    obtain ⟨n, hn, rfl, HNI, HNJ, rfl⟩ := hrel
    rcases (by omega : n = 0 ∨ n = 1 ∨ n = 2) with rfl | rfl | rfl
    · clear hkl1
      go_wp2_with fail
      refine HTi.out.mono ?_
      rintro e w1 ⟨rfl, rfl⟩
      cases hh : hasA d i k
      · have HNN := Lib.hid hh
        clear hh
        go_wp2
        go_roundw
        case rel => exact ⟨1, by omega, rfl, fun _ => HNN.out, fun h => by omega, trivial⟩
        case measure => simp [intOf]
      · have HM2 : Hid (M = true) := by show _ = _; rw [HM.out, hh]; rfl
        clear hh
        go_wp2
        go_ret
        rw [HM2.out]
        exact ⟨rfl, rfl⟩
    · clear hkl1
      go_wp2_with fail
      refine HTj.out.mono ?_
      rintro e w1 ⟨rfl, rfl⟩
      cases hh : hasA d j k
      · have HNN := Lib.hid hh
        clear hh
        go_wp2
        go_roundw
        case rel => exact ⟨2, by omega, rfl, fun _ => HNI.out (by omega), fun h => HNN.out, trivial⟩
        case measure => simp [intOf]
      · have HM2 : Hid (M = true) := by show _ = _; rw [HM.out, hh, Bool.or_true]
        clear hh
        go_wp2
        go_ret
        rw [HM2.out]
        exact ⟨rfl, rfl⟩
    · have HM2 : Hid (M = false) := by show _ = _; rw [HM.out, HNI.out (by omega), HNJ.out (by omega)]; rfl
      go_wp2
      go_ret
      rw [HM2.out]
      exact ⟨rfl, rfl⟩
end Go.Proofs.YtphhnhldbajaoaaGreatDoor

namespace Go.Proofs.YtphhnhldbajaoaaGreatDoor
open Go.RowKit Go.ChangeShapes Go.WideShapes Go.ChangeAt

theorem made_any (b : Nat) (v : Nat → Value) (d : ArcD) (w : World) (h : ArcAt w b v d) (hc : 1 ≤ d.c) :
    Calls Tryz.prog 116 #[.pointer (some ⟨b, 0, none⟩)] w fun e w' => e = .returned (.bool true) ∧ w = w' := by
  have q0 : w.cell? ⟨b, 0, none⟩ = some (.int .i64 d.c) := h.box.cell 0 _ rfl
  generalize d.c = c at *
  have h0 : (0 : Int) < c := by omega
  have h1 : decide ((0 : Int) < c) = true := decide_eq_true h0
  clear h
  go_enter Tryz.func116, Tryz.ntmps116
  go_wp2
  go_ret
  exact ⟨rfl, rfl⟩
theorem made_nil (w : World) : Calls Tryz.prog 116 #[.pointer none] w fun e w' => e = .returned (.bool false) ∧ w = w' := by
  go_enter Tryz.func116, Tryz.ntmps116
  go_wp2
  go_ret
  exact ⟨rfl, rfl⟩

/-- The cache's cells, as far as they are read. -/
structure Cell4 (w : World) (b : Nat) (d : ArcD) (a : Nat → Option Addr) (c : Nat → Nat) : Prop where
  z : w.cell? ⟨b, 0, none⟩ = some (.int .i64 d.c)
  t : w.cell? ⟨b, 1, none⟩ = some (.int .i64 d.t)
  l : ∀ i, InA i → w.cell? ⟨b, i, none⟩ = some (.slice (a i) (d.l i).length (c i))
theorem ArcAt.cells {w : World} {b : Nat} {v : Nat → Value} {d : ArcD} (h : ArcAt w b v d) : ∃ a c, Cell4 w b d a c := by
  have hv : ∀ i, ∃ x : Option Addr × Nat, InA i → v i = .slice x.1 (d.l i).length x.2 := by
    intro i
    by_cases hi : InA i
    · obtain ⟨a, c, e, _⟩ := (h.row i hi).view
      exact ⟨(a, c), fun _ => e⟩
    · exact ⟨(none, 0), fun h => absurd h hi⟩
  refine ⟨fun i => (Classical.choose (hv i)).1, fun i => (Classical.choose (hv i)).2, h.box.cell 0 _ rfl, h.box.cell 1 _ rfl, fun i hi => ?_⟩
  exact (h.box.cell i _ (cellsA_at _ _ v hi)).trans (congrArg some (Classical.choose_spec (hv i) hi))
theorem Tod.undrew {Q : List Nat → World → Prop} {F : List Nat} {w w' : World} (h : Tod Q F w.drew w') : Tod Q F w w' := by
  obtain ⟨F', h1, h2, h3⟩ := h
  exact ⟨F', h1, ⟨h2.os, h2.tape, h2.output, h2.size, h2.block⟩, h3⟩
theorem in2 : InA 2 := ⟨by omega, by omega⟩
theorem in3 : InA 3 := ⟨by omega, by omega⟩
theorem in4 : InA 4 := ⟨by omega, by omega⟩
theorem in5 : InA 5 := ⟨by omega, by omega⟩
def OkA (d : ArcD) : Prop := 1 ≤ d.c ∧ d.c ≤ 64 ∧ 0 ≤ d.t ∧ d.t ≤ d.c

set_option maxRecDepth 100000 in
set_option maxHeartbeats 2000000 in
theorem aroom_any (b : Nat) (F : List Nat) (d : ArcD) (even : Bool) (w : World) (h : ArcF b d F w) (hlen : d.len ≤ 10000) :
    Calls Tryz.prog 160 #[.pointer (some ⟨b, 0, none⟩), .bool even] w fun e w' => e = .returned (.string (roomA d even).2) ∧ Tod (ArcF b (roomA d even).1) F w w' := by
  obtain ⟨M, hM⟩ : ∃ M, M = roomA d even := ⟨_, rfl⟩
  rw [← hM]
  have HM : Hid (M = if room1 d even = true then moveA d 2 4 else moveA d 3 5) := hM
  have hlt : ArcF b d F w.drew := (fixed_arc b d).keep _ _ _ _ h (Chg.of (S := []) ((Below.refl _ _).drew) (Nat.le_refl _)) (fun _ _ hm => by cases hm)
  have HM24 := Lib.hid (move_list b 2 4 in2 in4 F d w.drew hlt hlen)
  have HM35 := Lib.hid (move_list b 3 5 in3 in5 F d w.drew hlt hlen)
  obtain ⟨v, h, rfl⟩ := h
  obtain ⟨a, c, hc⟩ := h.cells
  have q1 := hc.t
  have q2 := hc.l 2 in2
  have q3 := hc.l 3 in3
  have HS2 := Lib.hid (size_list b 2 _ _ _ w q2)
  have HS3 := Lib.hid (size_list b 3 _ _ _ w q3)
  have HR : Hid (room1 d even = (decide (0 < (d.l 2).length) && (decide (d.t < ((d.l 2).length : Int)) || (even && decide (((d.l 2).length : Int) = d.t)) || decide ((d.l 3).length = 0)))) := rfl
  clear hM h hlen hc hlt
  generalize (d.l 2).length = n2 at *
  generalize (d.l 3).length = n3 at *
  generalize d.t = t at *
  rcases Nat.eq_zero_or_pos n2 with h2 | h2
  · have HMf : Hid (M = moveA d 3 5) := by show _ = _; rw [HM.out, if_neg]; rw [HR.out, h2]; simp
    subst h2
    go_enter Tryz.func160, Tryz.ntmps160
    go_wp2_with fail
    refine HS2.out.mono ?_
    rintro e w1 ⟨rfl, rfl⟩
    go_wp2_with fail
    go_still_tail 6, (by kernel_rfl)
    go_wp2_with fail
    refine HM35.out.mono ?_
    rintro e w2 ⟨rfl, ht⟩
    have HT := Lib.hid (Tod.undrew ht)
    clear ht
    go_wp2
    go_ret
    rw [HMf.out]
    exact ⟨rfl, HT.out⟩
  · have e2 : decide ((0 : Int) < (n2 : Int)) = true := by rw [decide_eq_true_eq]; omega
    have D0 : decide (0 < n2) = true := decide_eq_true h2
    have hp2 : (0 : Int) < (n2 : Int) := by omega
    cases D1 : decide (t < (n2 : Int))
    · cases even
      · go_enter Tryz.func160, Tryz.ntmps160
        go_wp2_with fail
        refine HS2.out.mono ?_
        rintro e w1 ⟨rfl, rfl⟩
        rcases Nat.eq_zero_or_pos n3 with h3 | h3
        · have HMt : Hid (M = moveA d 2 4) := by show _ = _; rw [HM.out, if_pos]; rw [HR.out]; subst h3; simp [D0, D1]
          have e3 : ((n3 : Int) == 0) = true := by rw [h3]; rfl
          clear h3
          go_wp2_with fail
          refine HS3.out.mono ?_
          rintro e w1 ⟨rfl, rfl⟩
          go_wp2_with fail
          go_still_tail 6, (by kernel_rfl)
          go_wp2_with fail
          refine HM24.out.mono ?_
          rintro e w2 ⟨rfl, ht⟩
          have HT := Lib.hid (Tod.undrew ht)
          clear ht
          go_wp2
          go_ret
          rw [HMt.out]
          exact ⟨rfl, HT.out⟩
        · have HMf : Hid (M = moveA d 3 5) := by show _ = _; rw [HM.out, if_neg]; rw [HR.out]; have h4 : ¬ n3 = 0 := (by omega); simp [D0, D1, h4]
          have e3 : ((n3 : Int) == 0) = false := by rw [beq_eq_false_iff_ne]; omega
          clear h3
          go_wp2_with fail
          refine HS3.out.mono ?_
          rintro e w1 ⟨rfl, rfl⟩
          go_wp2_with fail
          go_still_tail 6, (by kernel_rfl)
          go_wp2_with fail
          refine HM35.out.mono ?_
          rintro e w2 ⟨rfl, ht⟩
          have HT := Lib.hid (Tod.undrew ht)
          clear ht
          go_wp2
          go_ret
          rw [HMf.out]
          exact ⟨rfl, HT.out⟩
      · cases D2 : decide ((n2 : Int) = t)
        · have e4 : ((n2 : Int) == t) = false := by rw [beq_eq_false_iff_ne]; simpa using D2
          go_enter Tryz.func160, Tryz.ntmps160
          go_wp2_with fail
          refine HS2.out.mono ?_
          rintro e w1 ⟨rfl, rfl⟩
          rcases Nat.eq_zero_or_pos n3 with h3 | h3
          · have HMt : Hid (M = moveA d 2 4) := by show _ = _; rw [HM.out, if_pos]; rw [HR.out]; subst h3; simp [D0, D1, D2]
            have e3 : ((n3 : Int) == 0) = true := by rw [h3]; rfl
            clear h3
            go_wp2_with fail
            refine HS3.out.mono ?_
            rintro e w1 ⟨rfl, rfl⟩
            go_wp2_with fail
            go_still_tail 6, (by kernel_rfl)
            go_wp2_with fail
            refine HM24.out.mono ?_
            rintro e w2 ⟨rfl, ht⟩
            have HT := Lib.hid (Tod.undrew ht)
            clear ht
            go_wp2
            go_ret
            rw [HMt.out]
            exact ⟨rfl, HT.out⟩
          · have HMf : Hid (M = moveA d 3 5) := by show _ = _; rw [HM.out, if_neg]; rw [HR.out]; have h4 : ¬ n3 = 0 := (by omega); simp [D0, D1, h4, D2]
            have e3 : ((n3 : Int) == 0) = false := by rw [beq_eq_false_iff_ne]; omega
            clear h3
            go_wp2_with fail
            refine HS3.out.mono ?_
            rintro e w1 ⟨rfl, rfl⟩
            go_wp2_with fail
            go_still_tail 6, (by kernel_rfl)
            go_wp2_with fail
            refine HM35.out.mono ?_
            rintro e w2 ⟨rfl, ht⟩
            have HT := Lib.hid (Tod.undrew ht)
            clear ht
            go_wp2
            go_ret
            rw [HMf.out]
            exact ⟨rfl, HT.out⟩
        · have HMt : Hid (M = moveA d 2 4) := by show _ = _; rw [HM.out, if_pos]; rw [HR.out]; simp [D0, D1, D2]
          have e4 : ((n2 : Int) == t) = true := by simpa using D2
          clear D0 D2
          go_enter Tryz.func160, Tryz.ntmps160
          go_wp2_with fail
          refine HS2.out.mono ?_
          rintro e w1 ⟨rfl, rfl⟩
          go_wp2_with fail
          go_still_tail 6, (by kernel_rfl)
          go_wp2_with fail
          refine HM24.out.mono ?_
          rintro e w2 ⟨rfl, ht⟩
          have HT := Lib.hid (Tod.undrew ht)
          clear ht
          go_wp2
          go_ret
          rw [HMt.out]
          exact ⟨rfl, HT.out⟩
    · have HMt : Hid (M = moveA d 2 4) := by show _ = _; rw [HM.out, if_pos]; rw [HR.out]; simp [D0, D1]
      clear D0
      go_enter Tryz.func160, Tryz.ntmps160
      go_wp2_with fail
      refine HS2.out.mono ?_
      rintro e w1 ⟨rfl, rfl⟩
      go_wp2_with fail
      go_still_tail 6, (by kernel_rfl)
      go_wp2_with fail
      refine HM24.out.mono ?_
      rintro e w2 ⟨rfl, ht⟩
      have HT := Lib.hid (Tod.undrew ht)
      clear ht
      go_wp2
      go_ret
      rw [HMt.out]
      exact ⟨rfl, HT.out⟩
end Go.Proofs.YtphhnhldbajaoaaGreatDoor

namespace Go.Proofs.YtphhnhldbajaoaaGreatDoor
open Go.RowKit Go.ChangeShapes Go.WideShapes Go.ChangeAt

theorem callW {P : Program} {f : FuncId} {args : Array Value} {w : World} {v : Value} (h : Calls P f args w fun e w' => e = .returned v ∧ w = w') :
    Calls P f args w fun e w'' => e = .returned v ∧ w'' = w := h.mono fun _ _ hh => ⟨hh.1, hh.2.symm⟩
theorem move_len (d : ArcD) {i j : Nat} (hi : InA i) (hj : InA j) : (moveA d i j).1.len ≤ d.len := by
  unfold moveA
  split
  · exact old_len d hi
  · next h =>
    show (addA (oldA d i).1 j (oldA d i).2).len ≤ _
    rw [add_len _ hj]
    unfold oldA at h ⊢
    cases hd : d.l i with
    | nil => rw [hd] at h; exact absurd rfl h
    | cons x r =>
      have := d.len_put hi r
      rw [hd] at this
      simp only [List.length_cons] at this
      show (d.put i r).len + 1 ≤ _
      omega
theorem room_len (d : ArcD) (e : Bool) : (roomA d e).1.len ≤ d.len := by
  unfold roomA
  split
  · exact move_len d in2 in4
  · exact move_len d in3 in5
theorem tod_drew {b : Nat} {F : List Nat} {d : ArcD} {w : World} (h : ArcF b d F w) : ArcF b d F w.drew := (fixed_arc b d).keep _ _ _ _ h (Chg.of (S := []) ((Below.refl _ _).drew) (Nat.le_refl _)) (fun _ _ hm => by cases hm)

set_option maxRecDepth 100000 in
set_option maxHeartbeats 1000000 in
theorem again_any (b i : Nat) (hi : InA i) (F : List Nat) (d : ArcD) (k : ByteArray) (even : Bool) (w : World) (h : ArcF b d F w) (hlen : d.len ≤ 9000) :
    Calls Tryz.prog 142 #[.pointer (some ⟨b, 0, none⟩), .string k, .pointer (some ⟨b, i, none⟩), .bool even] w fun e w' => e = .returned (.string (againA d k i even).2) ∧ Tod (ArcF b (againA d k i even).1) F w w' := by
  have HR := Lib.hid (aroom_any b F d even w h (by omega))
  have HL := Lib.hid (Nat.le_trans (room_len d even) hlen)
  have HM : Hid (againA d k i even = (addA (takeA (roomA d even).1 i k) 3 k, (roomA d even).2)) := rfl
  generalize againA d k i even = M at *
  generalize roomA d even = r at *
  obtain ⟨d1, left⟩ := r
  dsimp only at HR HL HM
  clear h hlen
  go_enter Tryz.func142, Tryz.ntmps142
  go_wp2_with fail
  refine HR.out.mono ?_
  rintro e w1 ⟨rfl, ht⟩
  obtain ⟨F1, ⟨v1, h1, rfl⟩, hc1, hf1⟩ := ht
  have HT1 := Lib.hid (take_list b i hi v1 d1 k w1 h1 (by have := HL.out; omega))
  have HC1 := Lib.hid hc1
  have HF1 := Lib.hid hf1
  clear h1 hc1 hf1 HR
  go_wp2_with fail
  refine HT1.out.mono ?_
  rintro e w2 ⟨rfl, ht⟩
  obtain ⟨F2, ⟨v2, h2, rfl⟩, hc2, hf2⟩ := Tod.seq HC1.out HF1.out ht
  have HT2 := Lib.hid (add_list b 3 in3 v2 (takeA d1 i k) k w2 h2 (by have := HL.out; have := take_len d1 hi k; omega))
  have HC2 := Lib.hid hc2
  have HF2 := Lib.hid hf2
  clear h2 hc2 hf2 ht HT1 HC1 HF1
  go_wp2_with fail
  refine HT2.out.mono ?_
  rintro e w3 ⟨rfl, ht⟩
  have HT := Lib.hid (Tod.seq HC2.out HF2.out ht)
  clear ht HT2
  go_wp2
  go_ret
  rw [HM.out]
  exact ⟨rfl, HT.out⟩

set_option maxRecDepth 100000 in
set_option maxHeartbeats 2000000 in
theorem new_any (b : Nat) (F : List Nat) (d : ArcD) (w : World) (h : ArcF b d F w) (hlen : d.len ≤ 9000) (hok : OkA d) :
    Calls Tryz.prog 143 #[.pointer (some ⟨b, 0, none⟩)] w fun e w' => e = .returned (.string (newA d).2) ∧ Tod (ArcF b (newA d).1) F w w' := by
  obtain ⟨w3, hw3⟩ : ∃ w3, w3 = w.drew.drew.drew := ⟨_, rfl⟩
  have h3 : ArcF b d F w3 := by rw [hw3]; exact tod_drew (tod_drew (tod_drew h))
  have HU : Hid (∀ {d' : ArcD} {w' : World}, Tod (ArcF b d') F w3 w' → Tod (ArcF b d') F w w') := by
    intro d' w' ht
    rw [hw3] at ht
    exact ht.undrew.undrew.undrew
  have HM : Hid (newA d = if onceA d = d.c then (if ((d.l 2).length : Int) = d.c then oldA d 2 else roomA (oldA d 4).1 false) else if d.c ≤ allA d then roomA (if allA d = 2 * d.c then (oldA d 5).1 else d) false else (d, empA)) := rfl
  have hwl := ArcD.le_len d in2
  have hwl4 := ArcD.le_len d in4
  have hwl3 := ArcD.le_len d in3
  have hwl5 := ArcD.le_len d in5
  have HRD := Lib.hid (fun (d' : ArcD) (F' : List Nat) (w' : World) (hh : ArcF b d' F' w') (hl : d'.len ≤ 9000) => aroom_any b F' d' false w' hh (by omega))
  have HO2 := Lib.hid (old_len d in2)
  have HO4 := Lib.hid (Nat.le_trans (old_len d in4) hlen)
  have HO5 := Lib.hid (Nat.le_trans (old_len d in5) hlen)
  have HLN := Lib.hid hlen
  have hF := h3
  obtain ⟨v, hv, rfl⟩ := h
  obtain ⟨v3, hv3, hvF⟩ := h3
  have HT2 := Lib.hid (old_list b 2 in2 v3 d w3 hv3 (by omega))
  have HT4 := Lib.hid (old_list b 4 in4 v3 d w3 hv3 (by omega))
  have HT5 := Lib.hid (old_list b 5 in5 v3 d w3 hv3 (by omega))
  rw [← hvF] at HT2 HT4 HT5
  have HFF := Lib.hid hF
  obtain ⟨a, c, hc⟩ := hv.cells
  have q0 := hc.z
  have q2 := hc.l 2 in2
  have q3 := hc.l 3 in3
  have q4 := hc.l 4 in4
  have q5 := hc.l 5 in5
  have p0 : w3.cell? ⟨b, 0, none⟩ = some (.int .i64 d.c) := by rw [hw3]; exact q0
  have HW3 := Lib.hid hw3
  obtain ⟨hok1, hok2, _, _⟩ := hok
  have ho : onceA d = ((d.l 2).length : Int) + ((d.l 4).length : Int) := rfl
  have ha : allA d = onceA d + ((d.l 3).length : Int) + ((d.l 5).length : Int) := rfl
  rw [ho] at ha
  generalize newA d = M at *
  generalize onceA d = once at *
  generalize allA d = all at *
  generalize (d.l 2).length = n2 at *
  generalize (d.l 3).length = n3 at *
  generalize (d.l 4).length = n4 at *
  generalize (d.l 5).length = n5 at *
  generalize hdc : d.c = z at *
  have hdl := hlen
  have W1 : IntKind.i64.wrap ((n2 : Int) + (n4 : Int)) = once := by rw [ho]; exact i64_small _ (by omega) (by omega)
  have W2 : IntKind.i64.wrap (once + (n3 : Int)) = once + (n3 : Int) := i64_small _ (by omega) (by omega)
  have W3 : IntKind.i64.wrap (once + (n3 : Int) + (n5 : Int)) = all := by rw [ha, ← ho]; exact i64_small _ (by omega) (by omega)
  have W4 : IntKind.i64.wrap (2 * z) = 2 * z := i64_small _ (by omega) (by omega)
  clear hv hv3 hvF hc hlen hw3 hwl hwl3 hwl4 hwl5 ho ha hdc hF
  go_enter Tryz.func143, Tryz.ntmps143
  go_wp2_with fail
  refine wp_region_held_quiet (fun W => W.cell? ⟨b, 2, none⟩ = some (.slice (a 2) n2 (c 2)) ∧ W.cell? ⟨b, 4, none⟩ = some (.slice (a 4) n4 (c 4))) (by kernel_rfl) (by kernel_rfl) ⟨q2, q4⟩ ?_
  iterate 3 (apply wpHeld_step; (intro W hS K hK; obtain ⟨r2, r4⟩ := hS; go_simp; exact hK _ rfl))
  apply wpHeld_step
  · intro W hS K hK
    obtain ⟨r2, r4⟩ := hS
    go_simp
    exact ⟨_, callW (size_list b 2 _ _ _ W r2), hK _ rfl⟩
  iterate 3 (apply wpHeld_step; (intro W hS K hK; obtain ⟨r2, r4⟩ := hS; go_simp; exact hK _ rfl))
  apply wpHeld_step
  · intro W hS K hK
    obtain ⟨r2, r4⟩ := hS
    go_simp
    exact ⟨_, callW (size_list b 4 _ _ _ W r4), hK _ rfl⟩
  iterate 2 (apply wpHeld_step; (intro W hS K hK; obtain ⟨r2, r4⟩ := hS; go_simp; exact hK _ rfl))
  refine wpHeld_nil ?_
  go_wp2_with fail
  refine wp_region_held_quiet (fun W => W.cell? ⟨b, 3, none⟩ = some (.slice (a 3) n3 (c 3)) ∧ W.cell? ⟨b, 5, none⟩ = some (.slice (a 5) n5 (c 5))) (by kernel_rfl) (by kernel_rfl) ⟨q3, q5⟩ ?_
  iterate 4 (apply wpHeld_step; (intro W hS K hK; obtain ⟨r3, r5⟩ := hS; go_simp; exact hK _ rfl))
  apply wpHeld_step
  · intro W hS K hK
    obtain ⟨r3, r5⟩ := hS
    go_simp
    exact ⟨_, callW (size_list b 3 _ _ _ W r3), hK _ rfl⟩
  iterate 4 (apply wpHeld_step; (intro W hS K hK; obtain ⟨r3, r5⟩ := hS; go_simp; exact hK _ rfl))
  apply wpHeld_step
  · intro W hS K hK
    obtain ⟨r3, r5⟩ := hS
    go_simp
    exact ⟨_, callW (size_list b 5 _ _ _ W r5), hK _ rfl⟩
  iterate 2 (apply wpHeld_step; (intro W hS K hK; obtain ⟨r3, r5⟩ := hS; go_simp; exact hK _ rfl))
  refine wpHeld_nil ?_
  clear W1 W2 W3 q3 q4 q5
  by_cases h1 : once = z
  · subst h1
    have e1 : (once == once) = true := by simp
    go_wp2_with fail
    refine wp_region_held_quiet (fun W => W.cell? ⟨b, 0, none⟩ = some (.int .i64 once) ∧ W.cell? ⟨b, 2, none⟩ = some (.slice (a 2) n2 (c 2))) (by kernel_rfl) (by kernel_rfl) ⟨q0, q2⟩ ?_
    iterate 10 (apply wpHeld_step; (intro W hS K hK; obtain ⟨r0, r2⟩ := hS; go_simp; exact hK _ rfl))
    apply wpHeld_step
    · intro W hS K hK
      obtain ⟨r0, r2⟩ := hS
      go_simp
      exact ⟨_, callW (size_list b 2 _ _ _ W r2), hK _ rfl⟩
    iterate 7 (apply wpHeld_step; (intro W hS K hK; obtain ⟨r0, r2⟩ := hS; go_simp; exact hK _ rfl))
    refine wpHeld_nil ?_
    rw [← HW3.out]
    clear q0 q2
    by_cases h2 : (n2 : Int) = once
    · have e2 : ((n2 : Int) == once) = true := by simpa using h2
      have HMM : Hid (M = oldA d 2) := by show _ = _; rw [HM.out, if_pos trivial, if_pos h2]
      clear h2 HM
      go_wp2_with fail
      refine HT2.out.mono ?_
      rintro e w4 ⟨rfl, ht⟩
      have HT := Lib.hid (HU.out ht)
      clear ht
      go_wp2
      go_ret
      rw [HMM.out]
      exact ⟨rfl, HT.out⟩
    · have e2 : ((n2 : Int) == once) = false := by simpa using h2
      have HMM : Hid (M = roomA (oldA d 4).1 false) := by show _ = _; rw [HM.out, if_pos trivial, if_neg h2]
      clear h2 HM
      go_wp2_with fail
      refine HT4.out.mono ?_
      rintro e w4 ⟨rfl, ht⟩
      obtain ⟨F4, h4, hc4, hf4⟩ := ht
      have HR := Lib.hid (HRD.out _ F4 w4 h4 HO4.out)
      have HC4 := Lib.hid hc4
      have HF4 := Lib.hid hf4
      clear h4 hc4 hf4
      go_wp2_with fail
      refine HR.out.mono ?_
      rintro e w5 ⟨rfl, ht⟩
      have HT := Lib.hid (HU.out (Tod.seq HC4.out HF4.out ht))
      clear ht
      go_wp2
      go_ret
      rw [HMM.out]
      exact ⟨rfl, HT.out⟩
  · have e1 : (once == z) = false := by simpa using h1
    go_wp2_with fail
    refine wp_region_held_quiet (fun W => W.cell? ⟨b, 0, none⟩ = some (.int .i64 z)) (by kernel_rfl) (by kernel_rfl) q0 ?_
    iterate 18 (apply wpHeld_step; (intro W r0 K hK; go_simp; exact hK _ rfl))
    refine wpHeld_nil ?_
    rw [← HW3.out]
    clear q0 q2
    by_cases h2 : z ≤ all
    · have e2 : decide (z ≤ all) = true := decide_eq_true h2
      by_cases h3 : all = 2 * z
      · have e3 : (all == 2 * z) = true := by simpa using h3
        have HMM : Hid (M = roomA (oldA d 5).1 false) := by show _ = _; rw [HM.out, if_neg h1, if_pos h2, if_pos h3]
        clear h3 HM
        go_wp2_with fail
        refine HT5.out.mono ?_
        rintro e w4 ⟨rfl, ht⟩
        obtain ⟨F4, h4, hc4, hf4⟩ := ht
        have HR := Lib.hid (HRD.out _ F4 w4 h4 HO5.out)
        have HC4 := Lib.hid hc4
        have HF4 := Lib.hid hf4
        clear h4 hc4 hf4
        go_wp2_with fail
        refine HR.out.mono ?_
        rintro e w5 ⟨rfl, ht⟩
        have HT := Lib.hid (HU.out (Tod.seq HC4.out HF4.out ht))
        clear ht
        go_wp2
        go_ret
        rw [HMM.out]
        exact ⟨rfl, HT.out⟩
      · have e3 : (all == 2 * z) = false := by simpa using h3
        have HMM : Hid (M = roomA d false) := by show _ = _; rw [HM.out, if_neg h1, if_pos h2, if_neg h3]
        have HR := Lib.hid (HRD.out _ _ w3 HFF.out HLN.out)
        clear h3 HM
        go_wp2_with fail
        refine HR.out.mono ?_
        rintro e w5 ⟨rfl, ht⟩
        have HT := Lib.hid (HU.out ht)
        clear ht
        go_wp2
        go_ret
        rw [HMM.out]
        exact ⟨rfl, HT.out⟩
    · have e2 : decide (z ≤ all) = false := by simpa using h2
      have HMM : Hid (M = (d, empA)) := by show _ = _; rw [HM.out, if_neg h1, if_neg h2]
      have HT : Hid (Tod (ArcF b d) (fpA b v) w w3) := HU.out (Tod.same (fixed_arc b d) HFF.out (Below.refl _ _))
      clear h2 HM
      go_wp2
      go_ret
      rw [HMM.out]
      exact ⟨rfl, HT.out⟩
end Go.Proofs.YtphhnhldbajaoaaGreatDoor
