/-
  The reference's heat: rows of counts; Worth, find, Value.
-/
import Derived.Test.YtgdlnifncmiebaaHeatMath2
import Derived.Test.YtgdlnifncmiebaaHeatG
namespace Go.Proofs.Ytgdlnifncmiebaa
open Go.RowKit Go.ChangeShapes Go.WideShapes Go.ChangeAt

def CtV (x : MkD) : List Value := [.string x.1, .int .i64 x.2.1, .int .i64 x.2.2]
theorem infoCt : (Try.prog.info? 56).map (fun i => (i.zero, i.size, i.bytes)) = some (some (.agg #[.string ⟨#[]⟩, .int .i64 0, .int .i64 0]), 3, 32) := by kernel_rfl
/-- The value v is a slice of the call's own that holds the counts l. -/
def Cs (w : World) (base : Nat) (v : Value) (l : List MkD) : Prop := w.ownsRow base 56 3 v l.length (l.flatMap CtV)
section
variable {w w' : World} {base : Nat} {v : Value} {l : List MkD}
theorem Cs.nil (w : World) (base : Nat) : Cs w base (.slice none 0 0) [] := World.ownsRow_nil _ _ _ _
theorem Cs.own_block (h : Cs w base v l) : ∀ k, v.ownBlock = some k → base ≤ k := fun k hk => (World.ownsRow.lt h k hk).1
theorem Cs.lt (h : Cs w base v l) : ∀ k, v.ownBlock = some k → k < w.heap.size := fun k hk => (World.ownsRow.lt h k hk).2
theorem Cs.keep (h : Cs w base v l) (hb : Below w.heap.size w w') : Cs w' base v l := ownsRow_of h fun k _ hlt => hb.block k hlt
theorem Cs.chg {S : List Nat} (h : Cs w base v l) (hc : Chg S w w') (hn : ∀ k, v.ownBlock = some k → k ∉ S) : Cs w' base v l := ownsRow_of h fun k hk hlt => hc.block k hlt (hn k hk)
theorem Cs.alloc (h : Cs w base v l) (o : Obj) : Cs (w.alloc o) base v l := World.ownsRow.alloc h o
theorem Cs.low {b : Nat} (h : Cs w base v l) (hb : b ≤ base) : Cs w b v l := by
  refine ⟨h.1, ?_⟩
  rcases h.2 with h | ⟨g, cap, cur, h1, h2, h3⟩
  · exact .inl h
  · exact .inr ⟨g, cap, cur, h1, Nat.le_trans hb h2, h3⟩
theorem Cs.form (h : Cs w base v l) : (v = .slice none 0 0 ∧ l = []) ∨ ∃ g cap, v = .slice (some ⟨g, 0, none⟩) l.length cap ∧ base ≤ g ∧ g < w.heap.size ∧ l.length ≤ cap ∧ cap ≤ maxLen := by
  rcases h.2 with ⟨rfl, h0⟩ | ⟨g, cap, cur, rfl, hg, hh, h1, h2, _⟩
  · exact .inl ⟨rfl, List.eq_nil_of_length_eq_zero h0⟩
  · exact .inr ⟨g, cap, rfl, hg, lt_of_block hh, h1, h2⟩
theorem Cs.cells {g cap n : Nat} (h : Cs w base (.slice (some ⟨g, 0, none⟩) n cap) l) {i : Nat} {x : MkD} (hx : l[i]? = some x) : w.cell? ⟨g, i * 3, none⟩ = some (.string x.1) ∧ w.cell? ⟨g, i * 3 + 1, none⟩ = some (.int .i64 x.2.1) ∧ w.cell? ⟨g, i * 3 + 2, none⟩ = some (.int .i64 x.2.2) := by
  have hi : i < l.length := (List.getElem?_eq_some_iff.1 hx).1
  have hn : n = l.length := by
    rcases h.2 with ⟨h', _⟩ | ⟨g', cap', cur, h', _⟩
    · simp at h'
    · simp only [Value.slice.injEq] at h'; exact h'.2.1
  subst hn
  have h0 := flat_get CtV 3 (fun _ => rfl) l i x hx 0 (by decide)
  have h1 := flat_get CtV 3 (fun _ => rfl) l i x hx 1 (by decide)
  have h2 := flat_get CtV 3 (fun _ => rfl) l i x hx 2 (by decide)
  exact ⟨by rw [World.ownsRow.cellAt h (i * 3) (by omega)]; exact h0, by rw [World.ownsRow.cellAt h (i * 3 + 1) (by omega)]; exact h1, by rw [World.ownsRow.cellAt h (i * 3 + 2) (by omega)]; exact h2⟩
end
theorem wp_ct_push {ops : Array Oper} {rest : List Oper} {o : Oper} {a : Act} {Q : Exit → Act → World → Prop} (W : World) (hgd : o.guard = none) (s x : Operand)
    (ho : o.op = .call { callee := .builtin .append, args := #[s, x], argTypes := #[27, 27] })
    (base : Nat) (v : Value) (l : List MkD) (hs : a.eval s = v) (hb : Cs W base v l)
    (ad : Addr) (c : Nat) (p : MkD) (hx : a.eval x = .slice (some ad) 1 c) (hcell : ∀ j u, (CtV p)[j]? = some u → W.cell? (ad.add j) = some u)
    (hbytes : l.length ≤ 100000) (hbase : base ≤ W.heap.size)
    (h : ∀ v' w', Cs w' base v' (l ++ [p]) → W.grownBy w' v.ownBlock → (v'.ownBlock = v.ownBlock ∨ v'.ownBlock = some W.heap.size) → wpList Try.prog ops Q rest (a.put o.dst v') w') : wpList Try.prog ops Q (o :: rest) a W := by
  obtain ⟨i0, hi, hz0, hz1, hz2⟩ := info_parts infoCt
  have h1 : ∀ u ∈ CtV p, u.oneCell' = true := by
    intro u hu
    simp [CtV] at hu
    rcases hu with rfl | rfl | rfl <;> rfl
  obtain ⟨v', w', hr, hown, hg, _, hob⟩ := run_append_own_at (P := Try.prog) W base 27 o.type 56 i0 (.agg #[.string ⟨#[]⟩, .int .i64 0, .int .i64 0]) 3 32 Try.underlying27 hi hz0 hz1 hz2 rfl (by decide) v l.length (l.flatMap CtV) hb ad 1 c (CtV p) rfl hcell h1 (by unfold maxLen; omega) (by omega) hbase
  have hown' : Cs w' base v' (l ++ [p]) := by
    unfold Cs
    rw [List.flatMap_append, List.length_append]
    exact hown
  refine wpList_plain hgd fun K hK => ?_
  unfold Oper.wp execOp
  simp only [ho, resolve, invoke, builtin, Sem.run_bind, Sem.run_pure, Result.andThen_ok, List.map_toArray, List.map_cons, List.map_nil, hs, hx, hr]
  exact hK _ _ (h v' w' hown' hg hob)

/-- The reference's heat b, of the counts l; its row is v. -/
structure RefAt (w : World) (b : Nat) (v : Value) (l : List MkD) : Prop where
  box : Box w b 29 #[v]
  row : Cs w 0 v l
  ne : v.ownBlock ≠ some b
def RefF (b : Nat) (l : List MkD) (F : List Nat) (w : World) : Prop := ∃ v, RefAt w b v l ∧ F = b :: v.ownBlock.toList
theorem fixed_ref (b : Nat) (l : List MkD) : Fixed (RefF b l) := by
  refine ⟨?_, ?_⟩
  · rintro G S w1 w2 ⟨v, h, rfl⟩ hc hn
    exact ⟨v, ⟨h.box.of (hc.block b h.box.lt (hn _ (by simp))), h.row.chg hc (fun k hk => hn k (by simp [hk])), h.ne⟩, rfl⟩
  · rintro G w ⟨v, h, rfl⟩ k hk
    rcases List.mem_cons.1 hk with rfl | hk
    · exact h.box.lt
    · exact h.row.lt k (by simpa using hk)
theorem half_half (c : Int) (i : Nat) : c / 2 ^ i / 2 = c / 2 ^ (i + 1) := by
  rw [Int.pow_succ, Int.ediv_ediv_of_nonneg (Int.pow_nonneg (by omega))]

set_option maxRecDepth 100000 in
set_option maxHeartbeats 2000000 in
theorem rworth (k : ByteArray) (c t now : Int) (w : World) (h0 : 0 ≤ c) (h1 : c ≤ 1048576) (ht : -9223372036854775808 ≤ t) (hn : now ≤ 9223372036854775807) :
    Calls Try.prog 23 #[.agg #[.string k, .int .i64 c, .int .i64 t], .int .i64 now] w fun e w' => e = .returned (.int .i64 (worthOf c t now)) ∧ Below w.heap.size w w' := by
  by_cases h : now ≤ t
  · have hd : decide (now ≤ t) = true := by simpa using h
    have HR : Hid (worthOf c t now = c) := by show _ = _; unfold worthOf; rw [if_pos h]
    clear h
    go_enter Try.func23, Try.ntmps23
    go_wp2_with fail
    go_ret
    exact ⟨by rw [HR.out]; simp, (Below.refl _ _).alloc (Nat.le_refl _) _⟩
  · have hd : decide (now ≤ t) = false := by simpa using h
    have HG := u64_gap t now ht hn (by omega)
    obtain ⟨T, hT⟩ : ∃ T : Nat, (T : Int) = now - t := ⟨(now - t).toNat, Int.toNat_of_nonneg (by omega)⟩
    have HR : Hid (worthOf c t now = c / 2 ^ min T 30) := by
      show _ = _
      unfold worthOf
      rw [if_neg h, show (now - t).toNat = T by omega]
    have HT0 : Hid (1 ≤ T) := by show 1 ≤ T; omega
    rw [← hT] at HG
    clear h hT ht hn
    have HC : Hid (0 ≤ c ∧ c ≤ 1048576) := ⟨h0, h1⟩
    have HB0 : Hid (Below w.heap.size w (w.alloc (.cells #[.string k, .int .i64 c, .int .i64 t] 56))) := (Below.refl _ _).alloc (Nat.le_refl _) _
    clear h0 h1
    go_enter Try.func23, Try.ntmps23
    go_wp2_with fail
    go_loopw [5, 7] (fun n i wr => ∃ j : Nat, j ≤ 30 ∧ j ≤ T ∧ n = .int .i64 (c / 2 ^ j) ∧ i = .int .u64 j ∧ Hid (Below w.heap.size w wr)) (fun _ i _ => 30 - (intOf i).toNat)
    case atStart => exact ⟨0, by omega, by omega, by simp, rfl, HB0⟩
    case round =>
      rename_i hkl
      obtain ⟨j, hj, hjT, rfl, rfl, HB⟩ := hrel
      by_cases h1 : j < T
      · have d1 : decide ((j : Int) < (T : Int)) = true := decide_eq_true (by omega)
        by_cases h2 : j < 30
        · clear hkl
          have d2 : decide ((j : Int) < 30) = true := decide_eq_true (by omega)
          have hv := half_le c j HC.out.1
          have k1 : Int.tdiv (c / 2 ^ j) 2 = c / 2 ^ (j + 1) := by rw [Int.tdiv_eq_ediv_of_nonneg hv.1]; exact half_half c j
          have hv2 := half_le c (j + 1) HC.out.1
          have hc2 := HC.out.2
          have k2 : IntKind.i64.wrap (c / 2 ^ (j + 1)) = c / 2 ^ (j + 1) := IntWalk.i64_in _ ⟨by omega, by omega⟩
          have k3 : IntKind.u64.wrap ((j : Int) + 1) = ((j : Int) + 1) := by rw [u64_mod]; omega
          have h3 : j < T := h1
          clear hv hv2 hc2 HG
          obtain ⟨z, hz⟩ : ∃ z, z = c / 2 ^ (j + 1) := ⟨_, rfl⟩
          rw [← hz] at k1 k2
          have HZ := Lib.hid hz
          clear hz
          go_wp2
          go_roundw
          case rel => exact ⟨j + 1, by omega, by omega, by rw [HZ.out], by go_num, HB⟩
          case measure => simp [intOf]; omega
        · have hj30 : j = 30 := by omega
          subst hj30
          have d2 : decide (((30 : Nat) : Int) < 30) = false := decide_eq_false (by omega)
          have d3 : decide ((30 : Int) ≤ (T : Int)) = true := decide_eq_true (by omega)
          have HZ : Hid (worthOf c t now = 0) := by
            show _ = _
            rw [HR.out, show min T 30 = 30 by omega]
            exact Int.ediv_eq_zero_of_lt HC.out.1 (by have := HC.out.2; omega)
          have h4 : 30 ≤ T := by omega
          have h5 : 30 < T := h1
          clear h2 hjT
          go_wp2
          go_ret
          exact ⟨by rw [HZ.out]; simp, HB.out⟩
      · have hjt : j = T := by omega
        subst hjt
        have d1 : decide ((j : Int) < (j : Int)) = false := decide_eq_false (by omega)
        by_cases h30 : j = 30
        · have d3 : decide ((30 : Int) ≤ (j : Int)) = true := decide_eq_true (by omega)
          have HZ : Hid (worthOf c t now = 0) := by
            show _ = _
            rw [HR.out, show min j 30 = 30 by omega]
            exact Int.ediv_eq_zero_of_lt HC.out.1 (by have := HC.out.2; omega)
          have h30' : 30 ≤ j := by omega
          clear h1 h30
          go_wp2
          go_ret
          exact ⟨by rw [HZ.out]; simp, HB.out⟩
        · have d3 : decide ((30 : Int) ≤ (j : Int)) = false := decide_eq_false (by omega)
          have HZ : Hid (worthOf c t now = c / 2 ^ j) := by
            show _ = _
            rw [HR.out, show min j 30 = j by omega]
          have h30' : ¬ 30 ≤ j := by omega
          clear h1 h30
          go_wp2
          go_ret
          exact ⟨by rw [HZ.out]; simp, HB.out⟩
end Go.Proofs.Ytgdlnifncmiebaa
