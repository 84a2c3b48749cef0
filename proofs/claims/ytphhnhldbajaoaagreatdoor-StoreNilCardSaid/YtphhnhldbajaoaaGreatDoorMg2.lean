/-
  Texts put together: ArcC, Held.
-/
import Derived.Test.YtphhnhldbajaoaaGreatDoorMg1
import Derived.StillTailTactics
namespace Go.Proofs.YtphhnhldbajaoaaGreatDoor
open Go.RowKit Go.ChangeShapes Go.WideShapes Go.ChangeAt

theorem Tod.seq {Q2 : List Nat → World → Prop} {F F1 : List Nat} {w w1 w2 : World} (hc : Chg F w w1) (hf : ∀ k ∈ F1, k ∈ F ∨ w.heap.size ≤ k) (k : Tod Q2 F1 w1 w2) : Tod Q2 F w w2 := by
  obtain ⟨F2, k1, k2, k3⟩ := k
  refine ⟨F2, k1, hc.then k2 hf, fun i hi => ?_⟩
  rcases k3 i hi with h4 | h4
  · exact hf i h4
  · exact .inr (Nat.le_trans hc.size h4)
theorem old_len (d : ArcD) {i : Nat} (hi : InA i) : (oldA d i).1.len ≤ d.len := by
  unfold oldA
  cases h : d.l i with
  | nil => exact Nat.le_refl _
  | cons x r =>
    have := d.len_put hi r
    rw [h] at this
    simp only [List.length_cons] at this
    show (d.put i r).len ≤ _
    omega
theorem add_len (d : ArcD) {i : Nat} (hi : InA i) (k : ByteArray) : (addA d i k).len = d.len + 1 := by
  have := d.len_put hi (d.l i ++ [k])
  simp only [List.length_append, List.length_cons, List.length_nil] at this
  unfold addA
  omega
theorem take_len (d : ArcD) {i : Nat} (hi : InA i) (k : ByteArray) : (takeA d i k).len ≤ d.len := by
  have := d.len_put hi (dropK (d.l i) k)
  have := drop_len k (d.l i)
  unfold takeA
  omega
theorem str_emp {s : ByteArray} (h : s ≠ empA) : s.toList.isEmpty = false ∧ ¬ s.toList = [] := by
  have hs : 0 < s.size := by
    rcases Nat.eq_zero_or_pos s.size with h0 | h0
    · exact absurd (ByteArray.ext (Array.eq_empty_of_size_eq_zero h0)) h
    · exact h0
  exact ⟨(str_some s hs).2, (str_some s hs).1⟩

set_option maxHeartbeats 1000000 in
theorem move_list (b i j : Nat) (hi : InA i) (hj : InA j) (F : List Nat) (d : ArcD) (w : World) (h : ArcF b d F w) (hlen : d.len ≤ 10000) :
    Calls Tryz.prog 173 #[.pointer (some ⟨b, i, none⟩), .pointer (some ⟨b, j, none⟩)] w fun e w' => e = .returned (.string (moveA d i j).2) ∧ Tod (ArcF b (moveA d i j).1) F w w' := by
  obtain ⟨v, h, rfl⟩ := h
  have HO := Lib.hid (old_list b i hi v d w h hlen)
  have HL := Lib.hid (Nat.le_trans (old_len d hi) hlen)
  obtain ⟨M, hM⟩ : ∃ M, M = moveA d i j := ⟨_, rfl⟩
  rw [← hM]
  have HM : Hid (M = if (oldA d i).2 = empA then oldA d i else (addA (oldA d i).1 j (oldA d i).2, (oldA d i).2)) := hM
  clear hM h hlen
  generalize oldA d i = o at *
  obtain ⟨d1, k⟩ := o
  dsimp only at HO HM HL
  go_enter Tryz.func173, Tryz.ntmps173
  go_wp2_with fail
  refine HO.out.mono ?_
  rintro e w1 ⟨rfl, ht⟩
  have HT := Lib.hid ht
  clear ht
  by_cases hk : k = empA
  · have HM2 : Hid (M = (d1, k)) := by rw [if_pos hk] at HM; exact HM
    subst hk
    go_wp2
    go_ret
    rw [HM2.out]
    exact ⟨rfl, HT.out⟩
  · have HM2 : Hid (M = (addA d1 j k, k)) := by rw [if_neg hk] at HM; exact HM
    obtain ⟨F1, ⟨v1, h1, rfl⟩, hc1, hf1⟩ := HT.out
    have HA := Lib.hid (add_list b j hj v1 d1 k w1 h1 HL.out)
    have HC1 := Lib.hid hc1
    have HF1 := Lib.hid hf1
    obtain ⟨e1, e2⟩ := str_emp hk
    clear hk h1 hc1 hf1 HT HM HO
    go_wp2_with fail
    refine HA.out.mono ?_
    rintro e w2 ⟨rfl, ht2⟩
    have HT2 := Lib.hid (Tod.seq HC1.out HF1.out ht2)
    clear ht2
    go_wp2
    go_ret
    rw [HM2.out]
    exact ⟨rfl, HT2.out⟩

theorem div_small (n m : Nat) (hn : n ≤ 10000) : 0 ≤ (n : Int) / (m : Int) ∧ (n : Int) / (m : Int) ≤ 10000 := by
  have hle : n / m ≤ 10000 := Nat.le_trans (Nat.div_le_self n m) hn
  rw [← Int.natCast_ediv]
  exact ⟨Int.natCast_nonneg _, Int.le_trans (Int.ofNat_le.2 hle) (by decide)⟩
set_option maxRecDepth 100000 in
set_option maxHeartbeats 1000000 in
theorem step_list (b i m c n cap : Nat) (a a' : Option Addr) (w : World) (h : w.cell? ⟨b, i, none⟩ = some (.slice a' m c)) (hm : 1 ≤ m) (hn : n ≤ 10000) :
    Calls Tryz.prog 141 #[.pointer (some ⟨b, i, none⟩), .agg #[.slice a n cap]] w fun e w' => e = .returned (.int .i64 (max 1 ((n / m : Nat) : Int))) ∧ Below w.heap.size w w' := by
  have HB : Hid (∀ o, Below w.heap.size w (w.alloc o)) := fun o => (Below.refl _ _).alloc (Nat.le_refl _) o
  have HQ : Hid (∀ o, (w.alloc o).cell? ⟨b, i, none⟩ = some (.slice a' m c)) := fun o => ((HB.out o).cell (p := ⟨b, i, none⟩) (lt_of_cell h)).trans h
  have HS := fun o => Lib.hid (size_list w.heap.size 0 n cap a (w.alloc (.cells #[.slice a n cap] o)) (boxed0 _ _ _ _ 0 _ rfl))
  have HS2 := fun o => Lib.hid (size_list b i m c a' (w.alloc o) (HQ.out o))
  clear h
  have hm0 : ¬ ((m : Int) = 0) := by omega
  have hmb : ((m : Int) == 0) = false := by simpa using hm0
  have hdv : (n : Int).tdiv (m : Int) = (n : Int) / (m : Int) := Int.tdiv_eq_ediv_of_nonneg (by omega)
  obtain ⟨d1, d2⟩ := div_small n m hn
  have hw : wrap64 ((n : Int) / (m : Int)) = (n : Int) / (m : Int) := IntWalk.wrap64_in _ (by omega)
  rw [Int.natCast_ediv]
  generalize (n : Int) / (m : Int) = q at *
  go_enter Tryz.func141, Tryz.ntmps141
  go_wp2_with fail
  refine (HS _).out.mono ?_
  rintro e w1 ⟨rfl, rfl⟩
  go_wp2_with fail
  refine (HS2 _).out.mono ?_
  rintro e w1 ⟨rfl, rfl⟩
  go_wp2_with fail
  all_goals (go_ret; exact ⟨ret_int (by omega), HB.out _⟩)

/-- Where the two lists are told. -/
def TwoP (w : World) (g b i j : Nat) : Prop := Box w g 167 #[.pointer (some ⟨b, i, none⟩), .pointer (some ⟨b, j, none⟩)]
theorem take_no {d : ArcD} {m : Nat} {k : ByteArray} (hh : hasA d m k = false) : takeA d m k = d := by
  unfold takeA ArcD.put
  rw [drop_no k _ hh]
  have : updA d.l m (d.l m) = d.l := by funext j; by_cases e : j = m <;> simp [updA, e]
  rw [this]

set_option maxRecDepth 100000 in
set_option maxHeartbeats 1000000 in
theorem some_take (g b i j : Nat) (hi : InA i) (hj : InA j) (F : List Nat) (d : ArcD) (k : ByteArray) (w : World) (h : ArcF b d F w) (hlen : d.len ≤ 10000) (hg : TwoP w g b i j) (hgF : g ∉ F) :
    Calls Tryz.prog 117 #[.func (.func 118) #[] #[], .string k, .slice (some ⟨g, 0, none⟩) 2 2] w fun e w' => e = .returned (.bool (someA d i j k).2) ∧ Tod (ArcF b (someA d i j k).1) F w w' := by
  obtain ⟨M, hM⟩ : ∃ M, M = someA d i j k := ⟨_, rfl⟩
  rw [← hM]
  have HM : Hid (M = if hasA d i k = true then (takeA d i k, true) else if hasA d j k = true then (takeA d j k, true) else (d, false)) := hM
  clear hM
  have H0 : Hid (Tod (ArcF b d) F w w) := Tod.same (fixed_arc b d) h (Below.refl _ _)
  have HTk : Hid (∀ m, InA m → ∀ wr, Tod (ArcF b d) F w wr → TwoP wr g b i j → Calls Tryz.prog 118 #[.pointer (some ⟨b, m, none⟩), .string k] wr fun e w' => e = .returned (.bool (hasA d m k)) ∧ Tod (ArcF b (takeA d m k)) F w w' ∧ TwoP w' g b i j) := by
    intro m hm wr ht hgr
    obtain ⟨F1, ⟨v1, h1, rfl⟩, hc1, hf1⟩ := ht
    refine (take_list b m hm v1 d k wr h1 hlen).mono ?_
    rintro e w2 ⟨rfl, ht2⟩
    refine ⟨rfl, Tod.seq hc1 hf1 ht2, ?_⟩
    obtain ⟨F2, _, hc2, _⟩ := ht2
    refine Box.of hgr (hc2.block g hgr.lt (fun hm => ?_))
    rcases hf1 g hm with h5 | h5
    · exact hgF h5
    · have := hg.lt; omega
  have HG := Lib.hid hg
  have HI := Lib.hid hi
  have HJ := Lib.hid hj
  clear h hg hgF hlen hi hj
  go_enter Tryz.func117, Tryz.ntmps117
  go_wp2
  go_loopw [8, 11] (fun _ s wr => ∃ n : Nat, n ≤ 2 ∧ s = .int .i64 n ∧ Hid (1 ≤ n → hasA d i k = false) ∧ Hid (2 ≤ n → hasA d j k = false) ∧ Hid (Tod (ArcF b d) F w wr) ∧ Hid (TwoP wr g b i j)) (fun _ s _ => 2 - (intOf s).toNat)
  case atStart => exact ⟨0, by omega, rfl, fun h => by omega, fun h => by omega, H0, HG⟩
  case round =>
    rename_i hkl1
    obtain ⟨n, hn, rfl, HNI, HNJ, HT, HGr⟩ := hrel
    rcases (by omega : n = 0 ∨ n = 1 ∨ n = 2) with rfl | rfl | rfl
    · have q0 := Box.cell HGr.out 0 _ rfl
      clear hkl1
      go_wp2_with fail
      refine (HTk.out i HI.out wr HT.out HGr.out).mono ?_
      rintro e w1 ⟨rfl, ht, hgg⟩
      have HT1 := Lib.hid ht
      have HG1 := Lib.hid hgg
      clear ht hgg
      cases hh : hasA d i k
      · have HNN := Lib.hid hh
        rw [take_no hh] at HT1
        clear hh
        go_wp2
        go_roundw
        case rel => exact ⟨1, by omega, rfl, fun _ => HNN.out, fun h => by omega, HT1, HG1⟩
        case measure => simp [intOf]
      · have HM2 : Hid (M = (takeA d i k, true)) := by rw [if_pos hh] at HM; exact HM
        clear hh
        go_wp2
        go_ret
        rw [HM2.out]
        exact ⟨rfl, HT1.out⟩
    · have q0 := Box.cell HGr.out 1 _ rfl
      clear hkl1
      go_wp2_with fail
      refine (HTk.out j HJ.out wr HT.out HGr.out).mono ?_
      rintro e w1 ⟨rfl, ht, hgg⟩
      have HT1 := Lib.hid ht
      have HG1 := Lib.hid hgg
      clear ht hgg
      cases hh : hasA d j k
      · have HNN := Lib.hid hh
        rw [take_no hh] at HT1
        clear hh
        go_wp2
        go_roundw
        case rel => exact ⟨2, by omega, rfl, fun _ => HNI.out (by omega), fun h => HNN.out, HT1, HG1⟩
        case measure => simp [intOf]
      · have HM2 : Hid (M = (takeA d j k, true)) := by show _ = _; rw [HM.out, HNI.out (by omega), hh]; rfl
        clear hh
        go_wp2
        go_ret
        rw [HM2.out]
        exact ⟨rfl, HT1.out⟩
    · have HM2 : Hid (M = (d, false)) := by show _ = _; rw [HM.out, HNI.out (by omega), HNJ.out (by omega)]; rfl
      go_wp2
      go_ret
      rw [HM2.out]
      exact ⟨rfl, HT.out⟩

set_option maxRecDepth 100000 in
set_option maxHeartbeats 1000000 in
theorem some_has (g b i j : Nat) (hi : InA i) (hj : InA j) (v : Nat → Value) (d : ArcD) (k : ByteArray) (w : World) (h : ArcAt w b v d) (hlen : d.len ≤ 10000) (hg : TwoP w g b i j) :
    Calls Tryz.prog 117 #[.func (.func 127) #[] #[], .string k, .slice (some ⟨g, 0, none⟩) 2 2] w fun e w' => e = .returned (.bool (hasA d i k || hasA d j k)) ∧ w = w' := by
  obtain ⟨M, hM⟩ : ∃ M, M = (hasA d i k || hasA d j k) := ⟨_, rfl⟩
  rw [← hM]
  have HM := Lib.hid hM
  clear hM
  have HTi := Lib.hid (has_list b i hi v d k w h hlen)
  have HTj := Lib.hid (has_list b j hj v d k w h hlen)
  have q0 := Box.cell hg 0 _ rfl
  have q1 := Box.cell hg 1 _ rfl
  clear h hg hlen hi hj
  go_enter Tryz.func117, Tryz.ntmps117
  go_wp2
  go_loopw [8, 11] (fun _ s wr => ∃ n : Nat, n ≤ 2 ∧ s = .int .i64 n ∧ Hid (1 ≤ n → hasA d i k = false) ∧ Hid (2 ≤ n → hasA d j k = false) ∧ wr = w) (fun _ s _ => 2 - (intOf s).toNat)
  case atStart => exact ⟨0, by omega, rfl, fun h => by omega, fun h => by omega, rfl⟩
  case round =>
    rename_i hkl1
    obtain ⟨n, hn, rfl, HNI, HNJ, rfl⟩ := hrel
    rcases (by omega : n = 0 ∨ n = 1 ∨ n = 2) with rfl | rfl | rfl
    · clear hkl1
      go_wp2_with fail
      refine HTi.out.mono ?_
      rintro e w1 ⟨rfl, rfl⟩
      cases hh : hasA d i k
      · have HNN := Lib.hid hh
        clear hh
        go_wp2
        go_roundw
        case rel => exact ⟨1, by omega, rfl, fun _ => HNN.out, fun h => by omega, trivial⟩
        case measure => simp [intOf]
      · have HM2 : Hid (M = true) := by show _ = _; rw [HM.out, hh]; rfl
        clear hh
        go_wp2
        go_ret
        rw [HM2.out]
        exact ⟨rfl, rfl⟩
    · clear hkl1
      go_wp2_with fail
      refine HTj.out.mono ?_
      rintro e w1 ⟨rfl, rfl⟩
      cases hh : hasA d j k
      · have HNN := Lib.hid hh
        clear hh
        go_wp2
        go_roundw
        case rel => exact ⟨2, by omega, rfl, fun _ => HNI.out (by omega), fun h => HNN.out, trivial⟩
        case measure => simp [intOf]
      · have HM2 : Hid (M = true) := by show _ = _; rw [HM.out, hh, Bool.or_true]
        clear hh
        go_wp2
        go_ret
        rw [HM2.out]
        exact ⟨rfl, rfl⟩
    · have HM2 : Hid (M = false) := by show _ = _; rw [HM.out, HNI.out (by omega), HNJ.out (by omega)]; rfl
      go_wp2
      go_ret
      rw [HM2.out]
      exact ⟨rfl, rfl⟩
end Go.Proofs.YtphhnhldbajaoaaGreatDoor

namespace Go.Proofs.YtphhnhldbajaoaaGreatDoor
open Go

section
variable {P : Program} {ops : Array Oper} {Q : Exit → Act → World → Prop}

/-- Q, but no way out by a panic or a jump. -/
def Calm (Q : Exit → Act → World → Prop) : Exit → Act → World → Prop
  | .normal, a, w => Q .normal a w
  | .outgrown, a, w => Q .outgrown a w
  | _, _, _ => False
theorem wp_calm {o : Oper} {a : Act} {w : World} {K : Act → World → Prop} (hh : o.wp P a w K (Calm Q)) : o.wp P a w K Q := by
  unfold Oper.wp at *
  generalize (execOp a.eval o).run P w = r at *
  cases r with
  | ok n w' =>
    cases n <;> simp only [Oper.upon] at hh ⊢ <;>
      first
        | exact hh
        | exact Calls.mono hh (fun e w'' he => by
            cases e with
            | returned v => exact he
            | panicked c => exact (he : False).elim
            | outgrown => obtain ⟨a0, w0, h0⟩ := (he : LetsOut (Calm Q)); exact ⟨a0, w0, h0⟩)
  | halt x w' =>
    cases x <;> simp only [Oper.upon] at hh ⊢
    exact (hh : False).elim
theorem wpOp_calm {i : Nat} {a : Act} {w : World} {K : Act → World → Prop} (hh : wpOp P ops (Calm Q) i K a w) : wpOp P ops Q i K a w := by
  unfold wpOp at *
  split
  · simpa [*] using hh
  · rename_i o ho
    simp only [ho] at hh
    split
    · rename_i hw
      simp only [hw, if_true] at hh
      rcases hh with hh | ⟨h1, a0, w0, h0⟩
      · exact .inl (wp_calm hh)
      · exact .inr ⟨h1, a0, w0, h0⟩
    · rename_i hw; simpa [hw] using hh

theorem put_size (a : Act) (d : Option Tmp) (v : Value) : (a.put d v).tmps.size = a.tmps.size := by
  cases d with
  | none => rfl
  | some k => simp [Act.put]
theorem put_defers (a : Act) (x : Option Tmp) (v : Value) (D : List Deferred) : { a.put x v with defers := D } = ({ a with defers := D } : Act).put x v := by
  cases x <;> rfl
theorem put_same {a a' : Act} {d : Option Tmp} {v v' : Value} (hs : a'.tmps.size = a.tmps.size) (h : a.put d v' = a.put d v) : a'.put d v' = a'.put d v := by
  cases d with
  | none => rfl
  | some k =>
    by_cases hk : k < a.tmps.size
    · have h1 : (a.put (some k) v').tmps[k]? = (a.put (some k) v).tmps[k]? := by rw [h]
      have : v' = v := by simpa [Act.put, hk] using h1
      rw [this]
    · have hk' : ¬ k < a'.tmps.size := by rw [hs]; exact hk
      simp [Act.put, Array.setIfInBounds, hk']

/-- Two operations apart from each other may change places. -/
theorem wpOp_put {j : Nat} {oi oj : Oper} {v : Value} (hj : ops[j]? = some oj) (hap : oi.apart ops oj = true)
    (hsi : ∀ cs b, oi.op ≠ .select cs b) (hsj : ∀ cs b, oj.op ≠ .select cs b) {K : Act → World → Prop} {a : Act} {w : World}
    (h : wpOp P ops (Calm Q) j K (a.put oi.dst v) w) :
    wpOp P ops (Calm Q) j (fun a' w' => K (a'.put oi.dst v) w' ∧ execOp a'.eval oi = execOp a.eval oi ∧ Region.wanted oi (yielded ops a'.tmps) = Region.wanted oi (yielded ops a.tmps) ∧ a'.tmps.size = a.tmps.size) a w := by
  obtain ⟨h1, h2, h3⟩ := Oper.apart_spec hap
  have key : ∀ u w', K ((a.put oi.dst v).put oj.dst u) w' → K ((a.put oj.dst u).put oi.dst v) w' ∧ execOp (a.put oj.dst u).eval oi = execOp a.eval oi ∧ Region.wanted oi (yielded ops (a.put oj.dst u).tmps) = Region.wanted oi (yielded ops a.tmps) ∧ (a.put oj.dst u).tmps.size = a.tmps.size := fun u w' hk =>
    ⟨by rw [← Act.put_comm a v u h2]; exact hk, execOp_put oi hsi a oj.dst u h3, wanted_put oi a oj.dst u h3, put_size a oj.dst u⟩
  unfold wpOp at *
  simp only [hj] at *
  rw [wanted_put oj a oi.dst v h1] at h
  split
  · rename_i hw
    simp only [hw, if_true] at h
    rcases h with h | ⟨h, hl⟩
    · left
      unfold Oper.wp at *
      rw [execOp_put oj hsj a oi.dst v h1] at h
      generalize (execOp a.eval oj).run P w = r at *
      cases r with
      | ok n w' =>
        cases n <;> simp only [Oper.upon] at h ⊢
        case value u => exact key u w' h
        case skip => exact key _ w' h
        case defer d =>
          have hd : (a.put oi.dst v).defers = a.defers := by cases oi.dst <;> rfl
          rw [hd, put_defers a oi.dst v] at h
          refine ⟨by rw [← Act.put_comm _ v undef h2]; exact h, ?_, ?_, ?_⟩
          · exact execOp_put oi hsi { a with defers := d :: a.defers } oj.dst undef h3
          · exact wanted_put oi { a with defers := d :: a.defers } oj.dst undef h3
          · exact put_size { a with defers := d :: a.defers } oj.dst undef
        case enter f args => exact Calls.mono h (fun e w'' he => by
            cases e with
            | returned u => exact key u w'' he
            | panicked c => exact (he : False).elim
            | outgrown => exact he)
        case row row args => exact Rows.mono h (fun u w'' he => key u w'' he)
      | halt x w' =>
        cases x <;> simp only [Oper.upon] at h ⊢
        exact (h : False).elim
    · right
      unfold Oper.asks at *
      rw [execOp_put oj hsj a oi.dst v h1] at h
      exact ⟨h, hl⟩
  · rename_i hw
    simp only [hw] at h
    exact key undef w h

/-- The first operations, in whatever order; S all the while; then L. -/
def wpH (P : Program) (ops : Array Oper) (Q : Exit → Act → World → Prop) (S : World → Prop) (m : Nat) (L : Array Bool → Act → World → Prop) : Nat → Array Bool → Act → World → Prop
  | 0, listed, a, w => L listed a w
  | f + 1, listed, a, w =>
    Region.ready .any ops listed ≠ [] ∧ ∀ i ∈ Region.ready .any ops listed, i < m ∧ wpOp P ops (Calm Q) i (fun a' w' => S w' ∧ wpH P ops Q S m L f (listed.setIfInBounds i true) a' w') a w

theorem any_of_wpH {S : World → Prop} {m g : Nat} {L : Array Bool → Act → World → Prop} (hL : ∀ listed a w, L listed a w → wpAny P .any ops Q g listed a w) :
    ∀ (f : Nat) (listed : Array Bool) (a : Act) (w : World), wpH P ops Q S m L f listed a w → wpAny P .any ops Q (f + g) listed a w
  | 0, listed, a, w, h => by rw [Nat.zero_add]; exact hL _ _ _ h
  | f + 1, listed, a, w, h => by
    rw [show f + 1 + g = (f + g) + 1 by omega]
    exact ⟨fun h0 => absurd h0 h.1, fun i hi => wpOp_calm (wpOp_mono (fun a' w' h' => any_of_wpH hL f _ a' w' h'.2) (h.2 i hi).2)⟩

theorem wpH_first {S : World → Prop} {m i : Nat} {oi : Oper} {L : Array Bool → Act → World → Prop} (hi : ops[i]? = some oi) (hsel : ∀ (j : Nat) (o : Oper) cs b, ops[j]? = some o → o.op ≠ .select cs b)
    (hs : Region.sinkB .any ops m = true) (hc : Region.chainB .any ops m = true) (hn : m < ops.size) (hin : i < m)
    (hdone : ∀ listed a w, L listed a w → ∀ j ∈ Region.ready .any ops listed, m ≤ j) :
    ∀ (f : Nat) (listed : Array Bool) (a : Act) (w : World) (v : Value), HeadInv .any ops m listed →
      (∀ j oj, ops[j]? = some oj → j ≠ i → listed.getD j true = false → (∀ e ∈ oj.after, Region.binds .any e = true → e.on ≠ i) → oi.apart ops oj = true) →
      i ∈ Region.ready .any ops listed → S w → (∀ W, S W → ∃ v', YieldsAt P ops W oi v' a ∧ a.put oi.dst v' = a.put oi.dst v) →
      wpH P ops Q S m L f (listed.setIfInBounds i true) (a.put oi.dst v) w → wpH P ops Q S m L (f + 1) listed a w := by
  intro f
  induction f with
  | zero =>
    intro listed a w v inv _ hr hS hy H
    have hun := (mem_ready.1 hr).1
    refine ⟨fun h => (by rw [h] at hr; cases hr), fun j hj => ?_⟩
    have hjn : j < m := by
      rcases Nat.lt_or_ge j m with h | h
      · exact h
      · exact absurd hj (tail_waits hs hc hn inv _ i rfl hin hun j h)
    refine ⟨hjn, ?_⟩
    by_cases hji : j = i
    · subst hji
      obtain ⟨v', hy', he⟩ := hy w hS
      exact wpOp_of_stOp (fun _ h => h) (hy'.stOp hi (K := fun a' => S w ∧ wpH P ops Q S m L 0 (listed.setIfInBounds j true) a' w) ⟨hS, by rw [he]; exact H⟩)
    · have := hdone _ _ _ H j (ready_mono hj hji)
      omega
  | succ f ih =>
    intro listed a w v inv hfree hr hS hy H
    have hun := (mem_ready.1 hr).1
    refine ⟨fun h => (by rw [h] at hr; cases hr), fun j hj => ?_⟩
    have hjn : j < m := by
      rcases Nat.lt_or_ge j m with h | h
      · exact h
      · exact absurd hj (tail_waits hs hc hn inv _ i rfl hin hun j h)
    refine ⟨hjn, ?_⟩
    by_cases hji : j = i
    · subst hji
      obtain ⟨v', hy', he⟩ := hy w hS
      exact wpOp_of_stOp (fun _ h => h) (hy'.stOp hi (K := fun a' => S w ∧ wpH P ops Q S m L (f + 1) (listed.setIfInBounds j true) a' w) ⟨hS, by rw [he]; exact H⟩)
    · have h1 := (H.2 j (ready_mono hj hji)).2
      obtain ⟨hjun, oj, hoj, hall⟩ := mem_ready.1 hj
      have hnot : ∀ e ∈ oj.after, Region.binds .any e = true → e.on ≠ i := fun e he hb heq => by
        have h1 := hall e he hb
        rw [heq, getD_both hun] at h1
        cases h1
      have h2 := wpOp_put hoj (hfree j oj hoj hji hjun hnot) (fun cs b => hsel i oi cs b hi) (fun cs b => hsel j oj cs b hoj) h1
      have hfree' : ∀ k ok, ops[k]? = some ok → k ≠ i → (listed.setIfInBounds j true).getD k true = false →
          (∀ e ∈ ok.after, Region.binds .any e = true → e.on ≠ i) → oi.apart ops ok = true := fun k ok hk hki hun hno => by
        refine hfree k ok hk hki ?_ hno
        by_cases hjk : j = k
        · subst hjk; exact hjun
        · rw [getD_set_ne true hjk] at hun; exact hun
      refine wpOp_mono (fun a' w' h3 => ?_) h2
      obtain ⟨⟨hS', h4⟩, he, hw, hsz⟩ := h3
      refine ⟨hS', ih (listed.setIfInBounds j true) a' w' v (inv.set hj hjn) hfree' (ready_mono hr (Ne.symm hji)) hS' (fun W hW => ?_) ?_⟩
      · obtain ⟨v', hy', hp⟩ := hy W hW
        exact ⟨v', hy'.of_same he hw, put_same hsz hp⟩
      · rw [Array.setIfInBounds_comm _ _ hji]
        exact h4

/-- Each in its order, to the same frame in every world that holds S; then K. -/
def wpHeld (P : Program) (ops : Array Oper) (S : World → Prop) (K : Act → Prop) : List Oper → Act → Prop
  | [], a => K a
  | o :: r, a => ∃ a1, (∀ W, S W → if Region.wanted o (yielded ops a.tmps) then o.still P a W (fun a' => a' = a1) else a.put o.dst undef = a1) ∧ wpHeld P ops S K r a1
theorem wpHeld_nil {S : World → Prop} {K : Act → Prop} {a : Act} (h : K a) : wpHeld P ops S K [] a := h
theorem wpHeld_step {S : World → Prop} {Kb : Act → Prop} {o : Oper} {r : List Oper} {a a1 : Act}
    (h : ∀ W, S W → ∀ K : Act → Prop, (∀ a', a' = a1 → K a') → if Region.wanted o (yielded ops a.tmps) then o.still P a W K else K (a.put o.dst undef))
    (h2 : wpHeld P ops S Kb r a1) : wpHeld P ops S Kb (o :: r) a :=
  ⟨a1, fun W hS => h W hS (fun a' => a' = a1) (fun _ h => h), h2⟩
theorem wpOp_step {l : List Oper} {i : Nat} {o : Oper} {a : Act} {w : World} {K : Act → World → Prop} (hi : l[i]? = some o)
    (h : ∀ K' : Act → World → Prop, (∀ a w, K a w → K' a w) → if Region.wanted o (yielded l.toArray a.tmps) then o.wp P a w K' Q else K' (a.put o.dst undef) w) : wpOp P l.toArray Q i K a w := by
  unfold wpOp
  have hi' : l.toArray[i]? = some o := by simpa using hi
  simp only [hi']
  have := h K (fun _ _ h => h)
  split at this
  · next hw => rw [if_pos hw]; exact .inl this
  · next hw => rw [if_neg hw]; exact this

theorem wpH_lex {S : World → Prop} {m g : Nat} {w : World} {Lq : Act → World → Prop} (hsel : Region.noSelect ops = true) (hs : Region.sinkB .any ops m = true) (hc : Region.chainB .any ops m = true) (hn : m < ops.size) (hS : S w) :
    ∀ (l : List Oper) (k : Nat) (listed : Array Bool) (a : Act), (∀ j, j < l.length → l[j]? = ops[k + j]?) → k + l.length + 1 = m → HeadInv .any ops m listed → (∀ i, i < k → listed.getD i true = true) →
    Region.lexHead .any ops g (l.length + 1) k listed = true → wpHeld P ops S (fun a' => wpOp P ops (Calm Q) (m - 1) (fun a'' w'' => S w'' ∧ Lq a'' w'') a' w) l a →
    wpH P ops Q S m (fun listed' a' w' => Region.seqB .any ops g m listed' = true ∧ Lq a' w') (l.length + 1) listed a w
  | [], k, listed, a, _, hk, inv, hpre, hB, h => by
    obtain rfl : m = k + 1 := by simpa using hk.symm
    simp only [List.length_nil, Region.lexHead, Bool.and_eq_true] at hB
    obtain ⟨⟨hr, _⟩, hB'⟩ := hB
    have hr' : k ∈ Region.ready .any ops listed := by simpa using hr
    have hun := (mem_ready.1 hr').1
    refine ⟨fun h => (by rw [h] at hr'; cases hr'), fun j hj => ?_⟩
    have hjn : j < k + 1 := by
      rcases Nat.lt_or_ge j (k + 1) with h | h
      · exact h
      · exact absurd hj (tail_waits hs hc hn inv _ k rfl (by omega) hun j h)
    refine ⟨hjn, ?_⟩
    have hjk : j = k := by
      rcases Nat.lt_or_ge j k with h | h
      · have h1 := hpre j h
        have h2 := (mem_ready.1 hj).1
        rw [h1] at h2
        cases h2
      · omega
    subst hjk
    have h' : wpOp P ops (Calm Q) j (fun a'' w'' => S w'' ∧ Lq a'' w'') a w := h
    exact wpOp_mono (fun a' w' h3 => ⟨h3.1, hB', h3.2⟩) h'
  | o :: l, k, listed, a, hl, hk, inv, hpre, hB, h => by
    have h0 : ops[k]? = some o := by simpa using (hl 0 (by simp)).symm
    rw [List.length_cons, Region.lexHead, Bool.and_eq_true, Bool.and_eq_true] at hB
    obtain ⟨⟨hr, hf⟩, hB'⟩ := hB
    have hkn : k < m := by simp only [List.length_cons] at hk; omega
    have hr' : k ∈ Region.ready .any ops listed := by simpa using hr
    obtain ⟨a1, hst, hK⟩ := h
    have hst' : ∀ W, S W → ∃ v', YieldsAt P ops W o v' a ∧ a.put o.dst v' = a1 := fun W hW => by
      have := hst W hW
      exact yieldsAt_of_stOp (i := k) h0 (by unfold stOp; simp only [h0]; exact this)
    obtain ⟨v, _, hv⟩ := hst' w hS
    subst hv
    have hksz : k < listed.size := by rw [inv.size]; omega
    exact wpH_first h0 (Region.noSelect_spec hsel) hs hc hn hkn (fun listed' a' w' hL => seqB_ready hL.1) (l.length + 1) listed a w v inv (Region.free_spec h0 hf) hr' hS hst'
      (wpH_lex hsel hs hc hn hS l (k + 1) _ _ (fun j hj => by have := hl (j + 1) (by simp; omega); simpa [Nat.add_assoc, Nat.add_comm 1 j] using this) (by simp only [List.length_cons] at hk; omega) (inv.set hr' hkn)
        (fun i hi => by
          by_cases hik : k = i
          · subst hik; simp [hksz]
          · rw [getD_set_ne true hik]; exact hpre i (by omega)) hB' hK)

theorem still_of_held {S : World → Prop} {K : Act → Prop} {w : World} (hS : S w) : ∀ (l : List Oper) (a : Act), wpHeld P ops S K l a → wpStill P ops w K l a
  | [], _, h => h
  | o :: r, a, ⟨a1, h1, h2⟩ => by
    have h3 := h1 w hS
    unfold wpStill
    split at h3
    · next hw => rw [if_pos hw]; exact Oper.still_mono (fun a' h => by subst h; exact still_of_held hS r _ h2) h3
    · next hw => rw [if_neg hw]; subst h3; exact still_of_held hS r _ h2
/-- A region that only reads: while S holds its operations keep their values. -/
theorem wp_region_held_quiet {id : Nat} {a : Act} {w : World} {l : List Oper} (S : World → Prop) (hm : P.follows .mixedOrders = true) (hB : Region.lexB .any l.toArray = true) (hS : S w.drew)
    (h : wpHeld P l.toArray S (fun a' => Q .normal a' w.drew) l a) : (Code.region id l.toArray true).wp P Q a w :=
  wp_region_still_lit hm hB (still_of_held hS l a h)
/-- The region: its first m operations keep their values while S holds; operation m makes memory and keeps S; the others come behind, in their order. -/
theorem wp_region_held_tail {id : Nat} {a : Act} {w : World} {l : List Oper} (S : World → Prop) (m : Nat) (hm : P.follows .mixedOrders = true) (hB : Region.lexTailB .any l.toArray (m + 1) = true) (hS : S w.drew)
    (h : wpHeld P l.toArray S (fun a' => wpOp P l.toArray (Calm Q) m (fun a'' w'' => S w'' ∧ wpList P l.toArray Q (l.drop (m + 1)) a'' w'') a' w.drew) (l.take m) a) : (Code.region id l.toArray true).wp P Q a w := by
  simp only [Region.lexTailB, Bool.and_eq_true, decide_eq_true_eq] at hB
  obtain ⟨⟨⟨⟨hsel, hn⟩, hs⟩, hc⟩, hlex⟩ := hB
  have hn' : m + 1 < l.length := by simpa using hn
  have htl : (l.take m).length = m := by simp; omega
  have hdl : (l.drop (m + 1)).length = l.toArray.size - (m + 1) := by simp
  have inv0 : HeadInv .any l.toArray (m + 1) (Array.replicate l.toArray.size false) :=
    ⟨by simp, fun j oj _ hl => (by rw [getD_replicate_false] at hl; cases hl), fun t _ ht => getD_in (by simpa using ht) (getD_replicate_false _ _)⟩
  have H := wpH_lex (Q := Q) (g := l.toArray.size - (m + 1)) (w := w.drew) (S := S) (m := m + 1) (Lq := fun a'' w'' => wpList P l.toArray Q (l.drop (m + 1)) a'' w'') hsel hs hc hn hS (l.take m) 0 _ a (fun j hj => by
    have hj' : j < m := by rw [htl] at hj; exact hj
    simp [hj']) (by rw [htl]; omega) inv0 (fun i hi => by omega) (by rw [htl]; exact hlex) h
  refine wp_region_any hm ?_
  have := any_of_wpH (Q := Q) (g := l.toArray.size - (m + 1)) (fun listed a' w' hL => by
    have := wpAny_of_seq (md := .any) (Q' := Q) (l.drop (m + 1)) (m + 1) listed a' w' (fun j => by simp [List.getElem?_drop]) (by rw [hdl]; exact hL.1) hL.2
    rwa [hdl] at this) _ _ _ _ H
  rw [htl, show m + 1 + (l.toArray.size - (m + 1)) = l.toArray.size by omega] at this
  exact this
end
end Go.Proofs.YtphhnhldbajaoaaGreatDoor
