/-
  Contracts: slices.Clone of writes and of strings.
-/
import Derived.Test.YtflobdhhjfpcdaaDevNew
import Derived.Test.YtflobdhhjfpcdaaDevOps
import Derived.Lib.SliceRun
namespace Go.Proofs.Ytflobdhhjfpcdaa
open Go.RowKit Go.ChangeShapes Go.WideShapes Go.ChangeAt

theorem eq_nil_wr (a : Option Addr) (n c : Nat) (b : Bool) (hb : a.isNone = b) (w : World) : (binOp .eql 58 (.slice a n c) (.slice none 0 0)).run Try.prog w = .ok (.bool b) w := by
  rw [← hb]; exact Go.Lib.run_eql_slice_nil w _ _ a n c 0 0 Try.underlying58
theorem eq_nil_str (a : Option Addr) (n c : Nat) (b : Bool) (hb : a.isNone = b) (w : World) : (binOp .eql 53 (.slice a n c) (.slice none 0 0)).run Try.prog w = .ok (.bool b) w := by
  rw [← hb]; exact Go.Lib.run_eql_slice_nil w _ _ a n c 0 0 Try.underlying53

/-- 'append(S{}, s...)' of writes. -/
theorem wp_wr_clone {ops : Array Oper} {rest : List Oper} {o : Oper} {a : Act} {Q : Exit → Act → World → Prop} (W : World) (hgd : o.guard = none) (s x : Operand)
    (ho : o.op = .call { callee := .builtin .append, args := #[s, x], argTypes := #[58, 58] })
    (v : Value) (base : Nat) (hs : a.eval s = v) (hb : W.ownsRow base 62 3 v 0 [])
    (g cap : Nat) (l : List WrD) (hx : a.eval x = .slice (some ⟨g, 0, none⟩) l.length cap) (hl : Wrs W (.slice (some ⟨g, 0, none⟩) l.length cap) l)
    (hbytes : l.length ≤ 100000) (hbase : base ≤ W.heap.size)
    (h : ∀ v' w', Wrs w' v' l → (∀ k, v'.ownBlock = some k → base ≤ k) → Below base W w' → wpList Try.prog ops Q rest (a.put o.dst v') w') : wpList Try.prog ops Q (o :: rest) a W := by
  obtain ⟨i0, hi, hz0, hz1, hz2⟩ := info_parts infoWr
  obtain ⟨v', w', hr, hown, hg, _, hob⟩ := run_append_own_at (P := Try.prog) W base 58 o.type 62 i0 (.agg #[.int .i64 0, .int .i64 0, .string ⟨#[]⟩]) 3 32 Try.underlying58 hi hz0 hz1 hz2 rfl (by decide) v 0 _ hb ⟨g, 0, none⟩ l.length cap (l.flatMap WrV)
    (flat_len WrV 3 wrV_len l) (World.ownsRow.cells hl (g := g) rfl) (by intro u hu; simp only [List.mem_flatMap] at hu; obtain ⟨y, _, hy⟩ := hu; exact wrV_one y u hy) (by unfold maxLen; omega) (by omega) hbase
  rw [Nat.zero_add, List.nil_append] at hown
  have hown0 : Wrs w' v' l := ⟨hown.1, by
    rcases hown.2 with ⟨e, h0⟩ | ⟨g', c', cur, e, _, h3⟩
    · exact .inl ⟨e, h0⟩
    · exact .inr ⟨g', c', cur, e, Nat.zero_le _, h3⟩⟩
  have hnew : ∀ k, v'.ownBlock = some k → base ≤ k := fun k hk => (World.ownsRow.lt hown k hk).1
  refine wpList_plain hgd fun K hK => ?_
  unfold Oper.wp execOp
  simp only [ho, resolve, invoke, builtin, Sem.run_bind, Sem.run_pure, Result.andThen_ok, List.map_toArray, List.map_cons, List.map_nil, hs, hx, hr]
  exact hK _ _ (h v' w' hown0 hnew ((Below.refl base W).grown hg hbase (fun k hk => (World.ownsRow.lt hb k hk).1)))

theorem wp_str_clone {ops : Array Oper} {rest : List Oper} {o : Oper} {a : Act} {Q : Exit → Act → World → Prop} (W : World) (hgd : o.guard = none) (s x : Operand)
    (ho : o.op = .call { callee := .builtin .append, args := #[s, x], argTypes := #[53, 53] })
    (v : Value) (base : Nat) (hs : a.eval s = v) (hb : W.ownsRow base 9 1 v 0 [])
    (g cap : Nat) (l : List ByteArray) (hx : a.eval x = .slice (some ⟨g, 0, none⟩) l.length cap) (hl : Strs W g cap l) (hpos : 0 < l.length)
    (hbytes : l.length ≤ 100000) (hbase : base ≤ W.heap.size)
    (h : ∀ g' c' w', Strs w' g' c' l → base ≤ g' → Below base W w' → wpList Try.prog ops Q rest (a.put o.dst (.slice (some ⟨g', 0, none⟩) l.length c')) w') : wpList Try.prog ops Q (o :: rest) a W := by
  obtain ⟨i0, hi, hz0, hz1, hz2⟩ := info_parts infoStr
  obtain ⟨v', w', hr, hown, hg, _, hob⟩ := run_append_own_at (P := Try.prog) W base 53 o.type 9 i0 (.string ⟨#[]⟩) 1 16 Try.underlying53 hi hz0 hz1 hz2 rfl (by decide) v 0 _ hb ⟨g, 0, none⟩ l.length cap (l.map Value.string)
    (by simp) (World.ownsRow.cells hl (g := g) rfl) (by intro u hu; simp only [List.mem_map] at hu; obtain ⟨y, _, rfl⟩ := hu; rfl) (by unfold maxLen; omega) (by omega) hbase
  rw [Nat.zero_add, List.nil_append] at hown
  obtain ⟨g', c', e, hb', hS⟩ : ∃ g' c', v' = .slice (some ⟨g', 0, none⟩) l.length c' ∧ base ≤ g' ∧ Strs w' g' c' l := by
    rcases hown.2 with ⟨e, h0⟩ | ⟨g', c', cur, e, h2, h3⟩
    · omega
    · exact ⟨g', c', e, h2, hown.1, .inr ⟨g', c', cur, rfl, Nat.zero_le _, h3⟩⟩
  subst e
  refine wpList_plain hgd fun K hK => ?_
  unfold Oper.wp execOp
  simp only [ho, resolve, invoke, builtin, Sem.run_bind, Sem.run_pure, Result.andThen_ok, List.map_toArray, List.map_cons, List.map_nil, hs, hx, hr]
  exact hK _ _ (h g' c' w' hS hb' ((Below.refl base W).grown hg hbase (fun k hk => (World.ownsRow.lt hb k hk).1)))

theorem clone_wrs (v : Value) (l : List WrD) (w : World) (hv : Wrs w v l) (hlen : l.length ≤ 100000) : Calls Try.prog 31 #[v] w fun e w' =>
    ∃ v', e = .returned v' ∧ Wrs w' v' l ∧ (∀ k, v'.ownBlock = some k → w.heap.size ≤ k) ∧ Below w.heap.size w w' := by
  rcases hv.view with ⟨rfl, rfl⟩ | ⟨g, cap, rfl, _⟩
  · have hq := fun W => eq_nil_wr none 0 0 true rfl W
    go_enter Try.func31, Try.ntmps31
    go_wp2
    go_ret
    exact ⟨_, rfl, hv, (fun k hk => by cases hk), Below.refl _ _⟩
  · have HV := Lib.hid hv
    have hq := fun W => eq_nil_wr (some ⟨g, 0, none⟩) l.length cap false rfl W
    clear hv
    go_enter Try.func31, Try.ntmps31
    go_wp2_with (with_reducible refine wp_wr_clone _ rfl (.tmp 5) (.tmp 6) rfl (.slice (some ⟨w.heap.size, 0, none⟩) 0 0) w.heap.size rfl ?c1 g cap l rfl ?c2 ?c3 ?c4 ?c5)
    case c1 => exact World.ownsRow_made w #[] 0 (Nat.le_refl _) (Nat.zero_le _) (by simp)
    case c2 => exact HV.out.below ((Below.refl _ _).alloc (Nat.le_refl _) _) (Nat.le_refl _)
    case c3 => exact hlen
    case c4 => rw [size_alloc]; omega
    intro v' w2 hw hn hb
    have HW := Lib.hid hw
    have HN := Lib.hid hn
    have HB := Lib.hid (((Below.refl w.heap.size w).alloc (Nat.le_refl _) (.cells #[] 62 (0, 0))).trans hb)
    clear hw hn hb hq
    go_wp2
    go_ret
    exact ⟨_, rfl, HW.out, HN.out, HB.out⟩

theorem clone_strs (g cap : Nat) (l : List ByteArray) (w : World) (hv : Strs w g cap l) (hpos : 0 < l.length) (hlen : l.length ≤ 100000) : Calls Try.prog 32 #[.slice (some ⟨g, 0, none⟩) l.length cap] w fun e w' =>
    ∃ g' c', e = .returned (.slice (some ⟨g', 0, none⟩) l.length c') ∧ Strs w' g' c' l ∧ w.heap.size ≤ g' ∧ Below w.heap.size w w' := by
  have HV := Lib.hid hv
  have hq := fun W => eq_nil_str (some ⟨g, 0, none⟩) l.length cap false rfl W
  clear hv
  go_enter Try.func32, Try.ntmps32
  go_wp2_with (with_reducible refine wp_str_clone _ rfl (.tmp 5) (.tmp 6) rfl (.slice (some ⟨w.heap.size, 0, none⟩) 0 0) w.heap.size rfl ?d1 g cap l rfl ?d2 ?d3 ?d4 ?d5 ?d6)
  case d1 => exact World.ownsRow_made w #[] 0 (Nat.le_refl _) (Nat.zero_le _) (by simp)
  case d2 => exact HV.out.chg (Chg.of (S := []) ((Below.refl _ _).alloc (Nat.le_refl _) _) (Nat.le_refl _)) (fun h => by cases h)
  case d3 => exact hpos
  case d4 => exact hlen
  case d5 => rw [size_alloc]; omega
  intro g' c' w2 hw hn hb
  have HW := Lib.hid hw
  have HN := Lib.hid hn
  have HB := Lib.hid (((Below.refl w.heap.size w).alloc (Nat.le_refl _) (.cells #[] 9 (0, 0))).trans hb)
  clear hw hn hb hq
  go_wp2
  go_ret
  exact ⟨_, _, rfl, HW.out, HN.out, HB.out⟩
end Go.Proofs.Ytflobdhhjfpcdaa
