/-
  Contracts: New, Value, Forget, Len, Touch of a heat.
-/
import Derived.Test.YtgdlnifncmiebaaHeatI
import Derived.Carry
namespace Go.Proofs.Ytgdlnifncmiebaa
open Go.RowKit Go.ChangeShapes Go.WideShapes Go.ChangeAt

theorem look_val {w : World} {m : Nat} {l : List MkD} (h : MkAt w m l) {k : ByteArray} (hk : k.size ≤ maxLen) : ∃ c t, (Instr.lookup 47 (.map (some m)) (.string k) false).run Try.prog w = .ok (.agg #[.int .i64 c, .int .i64 t]) w ∧
    (match findM l k with | none => (0, 0) | some x => x) = (c, t) := by
  obtain ⟨D, hown, hM⟩ := h
  obtain ⟨v, ps, hrun, hv⟩ := hown.lookup keyedS Try.underlying47 (zeroMk w) (markR_mk 0 0) (keyOfS hk)
  obtain ⟨x, rfl, hx⟩ := markR_inv hv
  rw [hM.atz] at hx
  refine ⟨x.1, x.2, hrun, ?_⟩
  cases e : findM l k with
  | none =>
    rw [e] at hx
    have := dM_inj (congrArg Prod.fst hx)
    exact Prod.ext this.1 this.2
  | some y =>
    rw [e] at hx
    have := dM_inj (congrArg Prod.fst hx)
    exact Prod.ext this.1 this.2
theorem look_ok {w : World} {m : Nat} {l : List MkD} (h : MkAt w m l) {k : ByteArray} (hk : k.size ≤ maxLen) : ∃ c t, (Instr.lookup 47 (.map (some m)) (.string k) true).run Try.prog w = .ok (.tuple #[.agg #[.int .i64 c, .int .i64 t], .bool (findM l k).isSome]) w ∧
    (match findM l k with | none => (0, 0) | some x => x) = (c, t) := by
  obtain ⟨D, hown, hM⟩ := h
  obtain ⟨v, ps, hrun, hv⟩ := hown.look_ok keyedS Try.underlying47 (zeroMk w) (markR_mk 0 0) (keyOfS hk)
  obtain ⟨x, rfl, hx⟩ := markR_inv hv
  rw [hM.atz] at hx
  rw [hM.has k] at hrun
  refine ⟨x.1, x.2, hrun, ?_⟩
  cases e : findM l k with
  | none =>
    rw [e] at hx
    have := dM_inj (congrArg Prod.fst hx)
    exact Prod.ext this.1 this.2
  | some y =>
    rw [e] at hx
    have := dM_inj (congrArg Prod.fst hx)
    exact Prod.ext this.1 this.2

set_option maxRecDepth 100000 in
set_option maxHeartbeats 2000000 in
theorem heat_new (w : World) : Calls Try.prog 10 #[] w fun e w' => ∃ b F, e = .returned (.pointer (some ⟨b, 0, none⟩)) ∧ HeatF b [] F w' ∧ Below w.heap.size w w' ∧ ∀ k ∈ F, w.heap.size ≤ k := by
  have hmm := @run_makeMap Try.prog
  go_enter Try.func10, Try.ntmps10
  go_wp2
  go_ret
  refine ⟨w.heap.size + 1, [w.heap.size + 1, w.heap.size], ?_, ⟨w.heap.size, rfl, by omega, ?_, ?_⟩, ?_, ?_⟩
  · simp
  · have := Box.new (w.alloc (.map #[] 0)) 49 #[.map (some w.heap.size)]
    rw [size_alloc] at this
    exact this
  · exact ⟨.map [], (World.ownsMap_made w _ _ _).alloc _, MapIs.nil⟩
  · exact ((Below.refl _ _).alloc (Nat.le_refl _) _).alloc (by rw [size_alloc]; omega) _
  · intro k hk
    simp only [List.mem_cons, List.not_mem_nil, or_false] at hk
    omega
theorem OkM.tick {l : List MkD} (h : OkM l) {k : ByteArray} {x : Int × Int} (e : findM l k = some x) : -9223372036854775808 ≤ x.2 ∧ 0 ≤ x.1 ∧ x.1 ≤ 1048576 ∧ x.2 ≤ 9223372036854775807 := by
  have := h.2 _ (find_mem e)
  exact ⟨this.2.2.1, this.1, this.2.1, this.2.2.2⟩
theorem worth_zero (now t : Int) : worthOf 0 t now = 0 := by
  unfold worthOf
  split <;> simp

set_option maxRecDepth 100000 in
set_option maxHeartbeats 2000000 in
theorem value_any (b : Nat) (F : List Nat) (l : List MkD) (k : ByteArray) (now : Int) (w : World) (h : HeatF b l F w) (hk : k.size ≤ maxLen) (hok : OkM l) (hn : now ≤ 9223372036854775807) :
    Calls Try.prog 15 #[.pointer (some ⟨b, 0, none⟩), .string k, .int .i64 now] w fun e w' => e = .returned (.int .i64 (valueM l k now)) ∧ Below w.heap.size w w' := by
  obtain ⟨m, rfl, hne, hb, hm⟩ := h
  obtain ⟨c, t, hrun, hct⟩ := look_val hm hk
  have c0 := hb.cell 0 _ rfl
  have ht : -9223372036854775808 ≤ t := by
    cases e : findM l k with
    | none => rw [e] at hct; cases hct; omega
    | some x => rw [e] at hct; have h2 : x = (c, t) := hct; have := (hok.tick e).1; rw [h2] at this; exact this
  have HW : Hid (∀ W, Calls Try.prog 21 #[.agg #[.int .i64 c, .int .i64 t], .int .i64 now] W fun e w' => e = .returned (.int .i64 (valueM l k now)) ∧ Below W.heap.size W w') := by
    intro W
    have e : valueM l k now = worthOf c t now := by
      unfold valueM
      cases e : findM l k with
      | none => rw [e] at hct; cases hct; exact (worth_zero _ _).symm
      | some x => rw [e] at hct; rw [show x = (c, t) from hct]
    rw [e]
    exact worth_any c t now W ht hn
  clear hct ht hn hok hk hm hb
  go_enter Try.func15, Try.ntmps15
  go_wp2_with fail
  refine (HW.out w).mono ?_
  rintro e w1 ⟨rfl, hb⟩
  have HB := Lib.hid hb
  clear hb hrun c0
  go_wp2
  go_ret
  exact ⟨rfl, HB.out⟩
set_option maxRecDepth 100000 in
set_option maxHeartbeats 2000000 in
theorem len_any (b : Nat) (F : List Nat) (l : List MkD) (w : World) (h : HeatF b l F w) :
    Calls Try.prog 17 #[.pointer (some ⟨b, 0, none⟩)] w fun e w' => e = .returned (.int .i64 (l.length : Int)) ∧ w = w' := by
  obtain ⟨m, rfl, hne, hb, D, hown, hM⟩ := h
  have c0 := hb.cell 0 _ rfl
  have hl := hown.len Try.underlying47
  rw [hM.size] at hl
  go_enter Try.func17, Try.ntmps17
  go_wp2_with fail
  go_ret
  exact ⟨rfl, rfl⟩
theorem MapTurned.chg {w w' : World} {m : Nat} (h : w.grownBy w' (some m)) : Chg [m] w w' := Chg.only h
set_option maxRecDepth 100000 in
set_option maxHeartbeats 2000000 in
theorem forget_any (b : Nat) (F : List Nat) (l : List MkD) (k : ByteArray) (w : World) (h : HeatF b l F w) (hk : k.size ≤ maxLen) :
    Calls Try.prog 13 #[.pointer (some ⟨b, 0, none⟩), .string k] w fun e w' => e = .returned (.tuple #[]) ∧ Tod (HeatF b (forgetM l k)) F w w' := by
  obtain ⟨m, rfl, hne, hb, D, hown, hM⟩ := h
  have c0 := hb.cell 0 _ rfl
  have HB := Lib.hid hb
  have HM := Lib.hid hM
  clear hM hb
  go_enter Try.func13, Try.ntmps13
  go_wp2_with (first
    | (at_delete; refine wpList_delete_own _ rfl _ _ 47 9 rfl 51 keyedS Try.underlying47 _ m l.length D rfl hown _ _ rfl (keyOfS hk) ?_; intro w1 hown1 hturn1)
    | go_in)
  have HO := Lib.hid hown1
  have HC : Hid (Chg [m] w w1) := Chg.only hturn1.grown
  have HT : Hid (Maps.Tidy D) := hown.tidy keyedS
  clear hown hown1 hturn1
  go_wp2
  go_end0
  refine ⟨rfl, [b, m], ⟨m, rfl, hne, HB.out.of (HC.out.block b HB.out.lt (by simpa using hne)), D.del (kl k), ?_, HM.out.del HT.out k⟩, HC.out.mono (by simp), fun i hi => .inl hi⟩
  have := owns_tight HO.out
  rw [(HM.out.del HT.out k).size] at this
  exact this
end Go.Proofs.Ytgdlnifncmiebaa
