/-
  The walk of NodeKeeps.
-/
import Derived.Test.YtlkkgboaicjaiaaNodeWk
import Derived.Laws.AppendOwnNone
import Derived.Test.YtlkkgboaicjaiaaFrame
import Derived.Test.YtlkkgboaicjaiaaOpenNode
namespace Go.Proofs.Ytlkkgboaicjaiaa.nodeKeeps
open Go.RowKit Go.ChangeShapes Go.WideShapes Go.ChangeAt

theorem run_append_none {P : Program} {w : World} (t ty e : TypeId) (i : TypeInfo) (_size : Nat) (ht : P.underlying t = some (.slice e)) (hi : P.info? e = some i) (c : Nat) :
    (Builtin.append_ #[t, t] ty #[.slice none 0 0, .slice none 0 c]).run P w = .ok (.slice none 0 0) w := by
  simp [Builtin.append_, run_underlying ht, sizeOf, typeInfo, hi, Builtin.lenOf, Builtin.firstCells]
/-- A row that came in is appended to a nil one. -/
theorem wp_keys_sl {ops : Array Oper} {rest : List Oper} {o : Oper} {a : Act} {Q : Exit → Act → World → Prop} (W : World) (hgd : o.guard = none) (s x : Operand)
    (ho : o.op = .call { callee := .builtin .append, args := #[s, x], argTypes := #[22, 22] })
    (base : Nat) (hs : a.eval s = .slice none 0 0) (xa : Option Addr) (xc : Nat) (cs : List ByteArray) (hx : a.eval x = .slice xa cs.length xc) (hc : Sl W Value.string xa cs)
    (hbytes : cs.length ≤ 2000000) (hbase : base ≤ W.heap.size)
    (h : ∀ v' w', Ks w' base v' cs → W.grownBy w' none → wpList Try.prog ops Q rest (a.put o.dst v') w') : wpList Try.prog ops Q (o :: rest) a W := by
  cases xa with
  | none =>
    have hl : cs = [] := by
      rcases Classical.em (cs = []) with h | h
      · exact h
      · obtain ⟨b, off, e, _⟩ := hc h; cases e
    subst hl
    obtain ⟨i0, hi, _⟩ := info_parts infoKey
    refine wpList_plain hgd fun K hK => ?_
    have hrun := run_append_none (P := Try.prog) (w := W) 22 o.type 9 i0 1 Try.underlying22 hi xc
    unfold Oper.wp execOp
    simp only [ho, resolve, invoke, builtin, Sem.run_bind, Sem.run_pure, Result.andThen_ok, List.map_toArray, List.map_cons, List.map_nil, hs, hx, List.length_nil, hrun]
    exact hK _ _ (h _ _ (Ks.nil _ _) ⟨rfl, rfl, rfl, Nat.le_refl _, fun _ _ _ => rfl⟩)
  | some ad =>
    have hcell : ∀ j u, cs[j]? = some u → W.cell? (ad.add j) = some (.string u) := fun j u hu => by
      obtain ⟨b, off, e, hb, hq⟩ := hc (by rintro rfl; simp at hu)
      obtain rfl : ad = ⟨b, off, none⟩ := by injection e
      rw [add_plain]
      exact hq j u hu
    exact wp_keys_push W hgd s x ho base _ [] hs (Ks.nil _ _) ad cs.length xc cs hx rfl hcell (by simp only [List.length_nil]; omega) hbase (fun v' w' h1 h2 _ => h v' w' h1 h2)
theorem ks_sl {w : World} {base : Nat} {a : Option Addr} {c : Nat} {l : List ByteArray} (h : Ks w base (.slice a l.length c) l) : Sl w Value.string a l := by
  obtain ⟨a', c', e, s⟩ := h.view
  injection e with e1
  rw [e1]; exact s
theorem mem_ins {l : List ByteArray} {i : Nat} {a b : ByteArray} (h : a ∈ l.insertIdx i b) : a = b ∨ a ∈ l := by
  rcases Nat.lt_or_ge l.length i with h1 | h1
  · rw [List.insertIdx_of_length_lt h1] at h; exact .inr h
  · exact (List.mem_insertIdx h1).1 h
theorem with_len (d : NodeD) (k v : ByteArray) : (withD d k v).keys.length ≤ d.keys.length + 1 ∧ (withD d k v).vals.length ≤ d.vals.length + 1 := by
  unfold withD
  split
  · split
    · simp only [List.length_set]; omega
    · simp only [List.length_insertIdx]; constructor <;> split <;> omega
  · omega
theorem with_sz (d : NodeD) (k v : ByteArray) (h : ∀ s ∈ d.keys ++ d.vals, s.size ≤ maxLen) (hk : k.size ≤ maxLen) (hv : v.size ≤ maxLen) : ∀ s ∈ (withD d k v).keys ++ (withD d k v).vals, s.size ≤ maxLen := by
  unfold withD
  split
  · split
    · intro s hs
      rcases List.mem_append.1 hs with h1 | h1
      · exact h s (List.mem_append.2 (.inl h1))
      · rcases List.mem_or_eq_of_mem_set h1 with h2 | h2
        · exact h s (List.mem_append.2 (.inr h2))
        · rw [h2]; exact hv
    · intro s hs
      rcases List.mem_append.1 hs with h1 | h1
      · rcases mem_ins h1 with h2 | h2
        · rw [h2]; exact hk
        · exact h s (List.mem_append.2 (.inl h2))
      · rcases mem_ins h1 with h2 | h2
        · rw [h2]; exact hv
        · exact h s (List.mem_append.2 (.inr h2))
  · exact h
theorem split_len (d : NodeD) : (splitD d).1.keys.length ≤ d.keys.length ∧ (splitD d).1.vals.length ≤ d.vals.length ∧ (splitD d).2.1.keys.length ≤ d.keys.length ∧ (splitD d).2.1.vals.length ≤ d.vals.length := by
  unfold splitD
  split
  · simp only [List.length_take, List.length_drop]; omega
  · simp
theorem split_sz (d : NodeD) (h : ∀ s ∈ d.keys ++ d.vals, s.size ≤ maxLen) : ∀ s ∈ (splitD d).1.keys ++ (splitD d).1.vals, s.size ≤ maxLen := by
  unfold splitD
  split
  · intro s hs
    rcases List.mem_append.1 hs with h1 | h1
    · exact h s (List.mem_append.2 (.inl (List.mem_of_mem_take h1)))
    · exact h s (List.mem_append.2 (.inr (List.mem_of_mem_take h1)))
  · intro s hs; simp at hs
set_option maxRecDepth 100000 in
set_option maxHeartbeats 4000000 in
theorem walk (w : World) (ka0 : Option Addr) (kc0 : Nat) (va0 : Option Addr) (vc0 : Nat) (n0 : NodeD) (g0 : ArgN w ka0 kc0 va0 vc0 n0) (a1 : ByteArray) (w1 : a1.size ≤ 140737488351232) (a2 : ByteArray) (w2 : a2.size ≤ 140737488351232) :
    Calls Try.prog 9 #[nodeV ka0 kc0 va0 vc0 n0, .string a1, .string a2] w fun e w' => e = .returned (.bool true) ∧ Below w.heap.size w w' := by
  have HG := Lib.hid g0
  have HZ := Lib.hid g0.sizes
  have HB0 : Hid (∀ o, Below w.heap.size w (w.alloc o)) := fun o => (Below.refl _ _).alloc (Nat.le_refl _) o
  clear g0
  have HV : Hid (Value.agg #[.bool n0.leaf, .slice ka0 n0.keys.length kc0, .slice va0 n0.vals.length vc0] = nodeV ka0 kc0 va0 vc0 n0) := rfl
  have HX := Lib.hid (Box.new w 24 #[.bool n0.leaf, .slice ka0 n0.keys.length kc0, .slice va0 n0.vals.length vc0])
  have HB := Lib.hid (HB0.out (.cells #[.bool n0.leaf, .slice ka0 n0.keys.length kc0, .slice va0 n0.vals.length vc0] 24 (0, 0)))
  unfold nodeV
  go_enter Try.func9, Try.ntmps9
  go_wp2_with fail
  rw [HV.out]
  refine (small_any ka0 kc0 va0 vc0 n0 _ (HG.out.keep HB.out)).mono ?_
  rintro e ws ⟨rfl, hb⟩
  have HX := Lib.hid (HX.out.keep hb HX.out.lt)
  have HB := Lib.hid (HB.out.trans (hb.mono HB.out.size))
  clear hb
  have a0 := HX.out.cell 0 _ rfl
  have a1' := HX.out.cell 1 _ rfl
  have a2' := HX.out.cell 2 _ rfl
  cases hsm : smallD n0
  · clear hsm
    go_wp2_with fail
    refine (live_any _).mono ?_
    rintro e w1 ⟨rfl, hb⟩
    have HX := Lib.hid (HX.out.keep hb HX.out.lt)
    have HB := Lib.hid (HB.out.trans (hb.mono HB.out.size))
    clear hb
    have a0 := HX.out.cell 0 _ rfl
    have a1' := HX.out.cell 1 _ rfl
    have a2' := HX.out.cell 2 _ rfl
    go_wp2
    go_ret
    exact ⟨rfl, HB.out⟩
  · have HIN := Lib.hid (HG.out.inn hsm)
    have HSM := Lib.hid (small_len hsm)
    clear hsm
    by_cases hk1 : n0.keys.length ≤ 60
    rotate_left
    · have hk1t : ((60 : Int) < (n0.keys.length : Int)) = True := eq_true (by omega)
      clear hk1
      go_wp2_with fail
      refine (live_any _).mono ?_
      rintro e w2 ⟨rfl, hb⟩
      have HX := Lib.hid (HX.out.keep hb HX.out.lt)
      have HB := Lib.hid (HB.out.trans (hb.mono HB.out.size))
      clear hb
      have a0 := HX.out.cell 0 _ rfl
      have a1' := HX.out.cell 1 _ rfl
      have a2' := HX.out.cell 2 _ rfl
      go_wp2
      go_ret
      exact ⟨rfl, HB.out⟩
    have hk1f : ((60 : Int) < (n0.keys.length : Int)) = False := eq_false (by omega)
    by_cases hk2 : a1.size ≤ 400
    rotate_left
    · have hk2t : ((400 : Int) < (a1.size : Int)) = True := eq_true (by omega)
      clear hk2
      go_wp2_with fail
      refine (live_any _).mono ?_
      rintro e w3 ⟨rfl, hb⟩
      have HX := Lib.hid (HX.out.keep hb HX.out.lt)
      have HB := Lib.hid (HB.out.trans (hb.mono HB.out.size))
      clear hb
      have a0 := HX.out.cell 0 _ rfl
      have a1' := HX.out.cell 1 _ rfl
      have a2' := HX.out.cell 2 _ rfl
      go_wp2
      go_ret
      exact ⟨rfl, HB.out⟩
    have hk2f : ((400 : Int) < (a1.size : Int)) = False := eq_false (by omega)
    by_cases hk3 : a2.size ≤ 300
    rotate_left
    · have hk3t : ((300 : Int) < (a2.size : Int)) = True := eq_true (by omega)
      clear hk3
      go_wp2_with fail
      refine (live_any _).mono ?_
      rintro e w4 ⟨rfl, hb⟩
      have HX := Lib.hid (HX.out.keep hb HX.out.lt)
      have HB := Lib.hid (HB.out.trans (hb.mono HB.out.size))
      clear hb
      have a0 := HX.out.cell 0 _ rfl
      have a1' := HX.out.cell 1 _ rfl
      have a2' := HX.out.cell 2 _ rfl
      go_wp2
      go_ret
      exact ⟨rfl, HB.out⟩
    have hk3f : ((300 : Int) < (a2.size : Int)) = False := eq_false (by omega)
    have HK1 : Hid (n0.keys.length ≤ 60 ∧ a1.size ≤ maxLen ∧ a2.size ≤ maxLen) := by show _ ∧ _ ∧ _; unfold maxLen; omega
    clear hk1 hk2 hk3
    go_wp2_with fail
    try rw [HV.out]
    refine (lown_node ka0 kc0 va0 vc0 n0 _).mono ?_
    rintro e w5 ⟨rfl, hb⟩
    have HX := Lib.hid (HX.out.keep hb HX.out.lt)
    have HB := Lib.hid (HB.out.trans (hb.mono HB.out.size))
    clear hb
    have a0 := HX.out.cell 0 _ rfl
    have a1' := HX.out.cell 1 _ rfl
    have a2' := HX.out.cell 2 _ rfl
    have HL0 : Hid (w.heap.size < w5.heap.size) := HX.out.lt
    have HA : Hid (∀ o p, Below w5.heap.size w5 ((w5.alloc o).alloc p)) := fun o p => ((Below.refl _ _).alloc (Nat.le_refl _) o).alloc (by rw [size_alloc]; omega) p
    have HI0 : Hid (∀ o p, NodeIn ((w5.alloc o).alloc p) ka0 va0 n0) := fun o p => (HIN.out.keep HB.out).keep (HA.out o p)
    have n0_ : ∀ o p, ((w5.alloc o).alloc p).cell? ⟨w.heap.size, 0, none⟩ = some (.bool n0.leaf) := fun o p => ((HX.out.alloc o).alloc p).cell 0 _ rfl
    have n1_ : ∀ o p, ((w5.alloc o).alloc p).cell? ⟨w.heap.size, 1, none⟩ = some (.slice ka0 n0.keys.length kc0) := fun o p => ((HX.out.alloc o).alloc p).cell 1 _ rfl
    have HW : Hid (Box ((w5.alloc (.cells #[.bool n0.leaf, .slice ka0 n0.keys.length kc0, .slice va0 n0.vals.length vc0] 30 (0, 0))).alloc (.cells #[.bool n0.leaf, .slice none 0 0, .slice none 0 0] 24 (0, 0))) (w5.heap.size + 1) 24 #[.bool n0.leaf, .slice none 0 0, .slice none 0 0]) := box_second _ _ _ _
    have HN : Hid (Box ((w5.alloc (.cells #[.bool n0.leaf, .slice ka0 n0.keys.length kc0, .slice va0 n0.vals.length vc0] 30 (0, 0))).alloc (.cells #[.bool n0.leaf, .slice none 0 0, .slice none 0 0] 24 (0, 0))) w5.heap.size 30 #[.bool n0.leaf, .slice ka0 n0.keys.length kc0, .slice va0 n0.vals.length vc0]) := (Box.new w5 30 #[.bool n0.leaf, .slice ka0 n0.keys.length kc0, .slice va0 n0.vals.length vc0]).alloc _
    have HB : Hid (Below w.heap.size w ((w5.alloc (.cells #[.bool n0.leaf, .slice ka0 n0.keys.length kc0, .slice va0 n0.vals.length vc0] 30 (0, 0))).alloc (.cells #[.bool n0.leaf, .slice none 0 0, .slice none 0 0] 24 (0, 0)))) := HB.out.trans ((HA.out _ _).mono HB.out.size)
    have HX : Hid (Box ((w5.alloc (.cells #[.bool n0.leaf, .slice ka0 n0.keys.length kc0, .slice va0 n0.vals.length vc0] 30 (0, 0))).alloc (.cells #[.bool n0.leaf, .slice none 0 0, .slice none 0 0] 24 (0, 0))) w.heap.size 24 #[.bool n0.leaf, .slice ka0 n0.keys.length kc0, .slice va0 n0.vals.length vc0]) := (HX.out.alloc _).alloc _
    clear a0 a1' a2'
    unfold nodeV
    simp only
    go_wp2_with (at_builtin; refine wp_keys_sl _ rfl _ _ rfl (w5.heap.size + 1 + 1) rfl ka0 kc0 n0.keys rfl (HI0.out _ _).ks (by have := HK1.out; omega) (by rw [size_alloc, size_alloc]; omega) ?_)
    intro kv wk hk hg
    have HZ0 : Hid (w5.heap.size + 1 + 1 = (((w5.alloc (.cells #[.bool n0.leaf, .slice ka0 n0.keys.length kc0, .slice va0 n0.vals.length vc0] 30 (0, 0))).alloc (.cells #[.bool n0.leaf, .slice none 0 0, .slice none 0 0] 24 (0, 0)))).heap.size) := by show _ = _; rw [size_alloc, size_alloc]
    have hb := (Below.refl _ _).grown hg (Nat.le_refl _) (fun k hk => by cases hk)
    clear hg n0_ n1_ HI0 HA
    obtain ⟨W0, hW0⟩ : ∃ W0, W0 = ((w5.alloc (.cells #[.bool n0.leaf, .slice ka0 n0.keys.length kc0, .slice va0 n0.vals.length vc0] 30 (0, 0))).alloc (.cells #[.bool n0.leaf, .slice none 0 0, .slice none 0 0] 24 (0, 0))) := ⟨_, rfl⟩
    rw [← hW0] at HW HN HX HB HZ0 hb
    clear hW0
    obtain ⟨b8, hb8⟩ : ∃ b8, b8 = w5.heap.size + 1 := ⟨_, rfl⟩
    obtain ⟨b7, hb7⟩ : ∃ b7, b7 = w5.heap.size := ⟨_, rfl⟩
    rw [← hb8] at HW HZ0 hk ⊢
    rw [← hb7] at HN HL0 ⊢
    have HL : Hid (w.heap.size < b7 ∧ b8 = b7 + 1) := ⟨HL0.out, by omega⟩
    clear hb7 hb8 HL0
    have HX := Lib.hid (HX.out.keep hb HX.out.lt)
    have HN := Lib.hid (HN.out.keep hb HN.out.lt)
    have HW := Lib.hid (HW.out.keep hb HW.out.lt)
    have HB := Lib.hid (HB.out.trans (hb.mono HB.out.size))
    have HQ : Hid (b8 + 1 ≤ wk.heap.size) := by show _ ≤ _; rw [HZ0.out]; exact hb.size
    obtain ⟨ka, kc, rfl, _, _, _⟩ := ks_cap hk
    have HK := Lib.hid hk
    clear hb hk HZ0
    have hC1 : Chg [b8] wk (wk.setCell ⟨b8, 1, none⟩ (.slice ka n0.keys.length kc)) := (Chg.refl _ _).set _ 1 _ (.inl (by simp))
    have HC1 := Lib.hid hC1
    have HNE : Hid (∀ k ∈ [b8], w.heap.size ≤ k) := fun k hk => by rw [List.mem_singleton] at hk; have := HL.out; omega
    have HB1 := Lib.hid (HB.out.trans ((hC1.below (n := w.heap.size) HB.out.size HNE.out)))
    have HI1 := Lib.hid (HIN.out.keep HB1.out)
    have HK2 := Lib.hid (HK.out.chg hC1 (fun k h1 h2 => by rw [List.mem_singleton] at h2; have := HK.out.own_block k h1; omega))
    have HW2 := Lib.hid (HW.out.set 1 (.slice ka n0.keys.length kc))
    have HX2 : Hid (Box (wk.setCell ⟨b8, 1, none⟩ (.slice ka n0.keys.length kc)) w.heap.size 24 #[.bool n0.leaf, .slice ka0 n0.keys.length kc0, .slice va0 n0.vals.length vc0]) := HX.out.of (hC1.block _ HX.out.lt (by rw [List.mem_singleton]; have := HL.out; omega))
    have HN2 : Hid (Box (wk.setCell ⟨b8, 1, none⟩ (.slice ka n0.keys.length kc)) b7 30 #[.bool n0.leaf, .slice ka0 n0.keys.length kc0, .slice va0 n0.vals.length vc0]) := HN.out.of (hC1.block _ HN.out.lt (by rw [List.mem_singleton]; have := HL.out; omega))
    have hne1 : ¬ w.heap.size = b8 := by have := HL.out; omega
    have hne2 : ¬ b7 = b8 := by have := HL.out; omega
    have c0 := HW.out.cell 0 _ rfl
    have c1 := HW.out.cell 1 _ rfl
    have c2 := HW.out.cell 2 _ rfl
    have f1 := HW.out.free 1
    have d2 := HX2.out.cell 2 _ rfl
    have e2 := HX.out.cell 2 _ rfl
    have g2 := HW2.out.cell 2 _ rfl
    have HQ2 : Hid (b8 + 1 ≤ (wk.setCell ⟨b8, 1, none⟩ (.slice ka n0.keys.length kc)).heap.size) := by show _ ≤ _; exact Nat.le_trans HQ.out hC1.size
    clear hC1 HX HN HW HK HB HQ
    go_wp2_with (at_builtin; refine wp_keys_sl _ rfl _ _ rfl (b8 + 1) rfl va0 vc0 n0.vals rfl HI1.out.vs (by have := HIN.out.vl; omega) HQ2.out ?_)
    intro vv wv hv hg
    have hb := (Below.refl _ _).grown hg (Nat.le_refl _) (fun k hk => by cases hk)
    clear hg c0 c1 c2 f1 d2 e2 g2 HC1 HI1 HQ2
    obtain ⟨wk2, hwk2⟩ : ∃ z, z = wk.setCell ⟨b8, 1, none⟩ (.slice ka n0.keys.length kc) := ⟨_, rfl⟩
    rw [← hwk2] at HB1 HK2 HW2 HX2 HN2 hb
    clear hwk2
    have HX := Lib.hid (HX2.out.keep hb HX2.out.lt)
    have HN := Lib.hid (HN2.out.keep hb HN2.out.lt)
    have HW := Lib.hid (HW2.out.keep hb HW2.out.lt)
    have HB := Lib.hid (HB1.out.trans (hb.mono HB1.out.size))
    have HK := Lib.hid (HK2.out.keep hb)
    obtain ⟨va, vc, rfl, _, _, _⟩ := ks_cap hv
    have HVV := Lib.hid hv
    clear hb hv HB1 HK2 HW2 HX2 HN2
    have hC1 : Chg [b8] wv (wv.setCell ⟨b8, 2, none⟩ (.slice va n0.vals.length vc)) := (Chg.refl _ _).set _ 2 _ (.inl (by simp))
    have HB2 := Lib.hid (HB.out.trans ((hC1.below (n := w.heap.size) HB.out.size HNE.out)))
    have HK2 := Lib.hid (HK.out.chg hC1 (fun k h1 h2 => by rw [List.mem_singleton] at h2; have := HK.out.own_block k h1; omega))
    have HV2 := Lib.hid (HVV.out.chg hC1 (fun k h1 h2 => by rw [List.mem_singleton] at h2; have := HVV.out.own_block k h1; omega))
    have HW2 := Lib.hid (HW.out.set 2 (.slice va n0.vals.length vc))
    have HX2 : Hid (Box (wv.setCell ⟨b8, 2, none⟩ (.slice va n0.vals.length vc)) w.heap.size 24 #[.bool n0.leaf, .slice ka0 n0.keys.length kc0, .slice va0 n0.vals.length vc0]) := HX.out.of (hC1.block _ HX.out.lt (by rw [List.mem_singleton]; have := HL.out; omega))
    have HN2 : Hid (Box (wv.setCell ⟨b8, 2, none⟩ (.slice va n0.vals.length vc)) b7 30 #[.bool n0.leaf, .slice ka0 n0.keys.length kc0, .slice va0 n0.vals.length vc0]) := HN.out.of (hC1.block _ HN.out.lt (by rw [List.mem_singleton]; have := HL.out; omega))
    have c2 := HW.out.cell 2 _ rfl
    have f2 := HW.out.free 2
    have d0 := HN2.out.cell 0 _ rfl
    have d1 := HN2.out.cell 1 _ rfl
    have d2 := HN2.out.cell 2 _ rfl
    have e0 := HN.out.cell 0 _ rfl
    have e1 := HN.out.cell 1 _ rfl
    have e2 := HN.out.cell 2 _ rfl
    clear hC1 HX HN HW HK HB HVV
    go_wp2_with fail
    obtain ⟨w8, hw8⟩ : ∃ z, z = wv.setCell ⟨b8, 2, none⟩ (.slice va n0.vals.length vc) := ⟨_, rfl⟩
    rw [← hw8] at HB2 HK2 HV2 HW2 HX2 HN2 ⊢
    clear hw8 c2 f2 d0 d1 d2 e0 e1 e2 hne1 hne2
    have HIW : Hid (NodeIn w8 ka va n0) := ⟨ks_sl HK2.out, ks_sl HV2.out, HIN.out.kl, HIN.out.vl⟩
    have HW : Hid (Box w8 b8 24 #[.bool n0.leaf, .slice ka n0.keys.length kc, .slice va n0.vals.length vc]) := HW2.out
    have HX := HX2
    have HN := HN2
    have HB := HB2
    clear HK2 HV2 HW2 HX2 HN2 HB2 HNE
    rw [HV.out]
    refine (with_any ka0 kc0 va0 vc0 n0 a1 a2 _ (HIN.out.keep HB.out) HZ.out HK1.out.2.1 HK1.out.2.2).mono ?_
    rintro e w9 ⟨v, rfl, ho, hb⟩
    have hl := with_len n0 a1 a2
    have hz := with_sz n0 a1 a2 HZ.out HK1.out.2.1 HK1.out.2.2
    obtain ⟨D, hD⟩ : ∃ D, D = withD n0 a1 a2 := ⟨_, rfl⟩
    rw [← hD] at ho hl hz
    clear hD
    obtain ⟨kd, kdc, vd, vdc, rfl, hi, _, _⟩ := ho.view (by have := HSM.out; omega) (by have := HSM.out; omega)
    have HID := Lib.hid hi
    have HZD := Lib.hid hz
    clear ho hl hi hz
    have HX := Lib.hid (HX.out.keep hb HX.out.lt)
    have HN := Lib.hid (HN.out.keep hb HN.out.lt)
    have HW := Lib.hid (HW.out.keep hb HW.out.lt)
    have HIW := Lib.hid (HIW.out.keep hb)
    have HB := Lib.hid (HB.out.trans (hb.mono HB.out.size))
    clear hb
    have HY := Lib.hid (Box.new w9 30 #[.bool D.leaf, .slice kd D.keys.length kdc, .slice vd D.vals.length vdc])
    have HA : Hid (∀ o, Below w9.heap.size w9 (w9.alloc o)) := fun o => (Below.refl _ _).alloc (Nat.le_refl _) o
    have q0 : ∀ o, (w9.alloc o).cell? ⟨b7, 0, none⟩ = some (.bool n0.leaf) := fun o => (HN.out.alloc o).cell 0 _ rfl
    have q1 : ∀ o, (w9.alloc o).cell? ⟨b7, 1, none⟩ = some (.slice ka0 n0.keys.length kc0) := fun o => (HN.out.alloc o).cell 1 _ rfl
    have q2 : ∀ o, (w9.alloc o).cell? ⟨b7, 2, none⟩ = some (.slice va0 n0.vals.length vc0) := fun o => (HN.out.alloc o).cell 2 _ rfl
    unfold nodeV
    simp only
    go_wp2_with fail
    generalize hwh : w9.alloc (.cells #[.bool D.leaf, .slice kd D.keys.length kdc, .slice vd D.vals.length vdc] 30 (0, 0)) = wh
    have hb := HA.out (.cells #[.bool D.leaf, .slice kd D.keys.length kdc, .slice vd D.vals.length vdc] 30 (0, 0))
    rw [hwh] at HY hb
    clear hwh q0 q1 q2 HA
    have HX := Lib.hid (HX.out.keep hb HX.out.lt)
    have HN := Lib.hid (HN.out.keep hb HN.out.lt)
    have HW := Lib.hid (HW.out.keep hb HW.out.lt)
    have HIW := Lib.hid (HIW.out.keep hb)
    have HID := Lib.hid (HID.out.keep hb)
    have HB := Lib.hid (HB.out.trans (hb.mono HB.out.size))
    clear hb
    obtain ⟨b9, hb9⟩ : ∃ b9, b9 = w9.heap.size := ⟨_, rfl⟩
    rw [← hb9] at HY ⊢
    clear hb9
    rw [HV.out]
    refine (without_any ka0 kc0 va0 vc0 n0 a1 _ (HIN.out.keep HB.out) HZ.out).mono ?_
    rintro e wi ⟨v, rfl, _, hb⟩
    have HX := Lib.hid (HX.out.keep hb HX.out.lt)
    have HN := Lib.hid (HN.out.keep hb HN.out.lt)
    have HW := Lib.hid (HW.out.keep hb HW.out.lt)
    have HY := Lib.hid (HY.out.keep hb HY.out.lt)
    have HIW := Lib.hid (HIW.out.keep hb)
    have HID := Lib.hid (HID.out.keep hb)
    have HB := Lib.hid (HB.out.trans (hb.mono HB.out.size))
    clear hb
    have q0 := HN.out.cell 0 _ rfl
    have q1 := HN.out.cell 1 _ rfl
    have q2 := HN.out.cell 2 _ rfl
    go_wp2_with fail
    clear q0 q1 q2
    rw [HV.out]
    refine (split_any ka0 kc0 va0 vc0 n0 _ (HIN.out.keep HB.out) HZ.out HG.out.kl HG.out.vl).mono ?_
    rintro e wj ⟨v1, v2, rfl, h1, h2, hb⟩
    have HX := Lib.hid (HX.out.keep hb HX.out.lt)
    have HN := Lib.hid (HN.out.keep hb HN.out.lt)
    have HW := Lib.hid (HW.out.keep hb HW.out.lt)
    have HY := Lib.hid (HY.out.keep hb HY.out.lt)
    have HIW := Lib.hid (HIW.out.keep hb)
    have HID := Lib.hid (HID.out.keep hb)
    have HB := Lib.hid (HB.out.trans (hb.mono HB.out.size))
    clear hb
    have hsl := split_len n0
    have hsz := split_sz n0 HZ.out
    obtain ⟨S, hS⟩ : ∃ S, S = splitD n0 := ⟨_, rfl⟩
    rw [← hS] at h1 h2 hsl hsz ⊢
    clear hS
    obtain ⟨A, B2, X⟩ := S
    dsimp only at h1 h2 hsl hsz ⊢
    obtain ⟨kp, kpc, vp, vpc, rfl, hi, _, _⟩ := h1.view (by have := HSM.out; omega) (by have := HSM.out; omega)
    obtain ⟨kr, krc, vr, vrc, rfl, _, _, _⟩ := h2.view (by have := HSM.out; omega) (by have := HSM.out; omega)
    have HIA := Lib.hid hi
    have HZA := Lib.hid hsz
    clear h1 h2 hsl hsz hi
    have HA : Hid (∀ o p, Below wj.heap.size wj ((wj.alloc o).alloc p)) := fun o p => ((Below.refl _ _).alloc (Nat.le_refl _) o).alloc (by rw [size_alloc]; omega) p
    have q0 : ∀ o p, ((wj.alloc o).alloc p).cell? ⟨b9, 0, none⟩ = some (.bool D.leaf) := fun o p => ((HY.out.alloc o).alloc p).cell 0 _ rfl
    have q1 : ∀ o p, ((wj.alloc o).alloc p).cell? ⟨b9, 1, none⟩ = some (.slice kd D.keys.length kdc) := fun o p => ((HY.out.alloc o).alloc p).cell 1 _ rfl
    have q2 : ∀ o p, ((wj.alloc o).alloc p).cell? ⟨b9, 2, none⟩ = some (.slice vd D.vals.length vdc) := fun o p => ((HY.out.alloc o).alloc p).cell 2 _ rfl
    unfold nodeV
    cases X
    · go_wp2_with fail
      generalize hwq : ((wj.alloc (.cells #[.bool A.leaf, .slice kp A.keys.length kpc, .slice vp A.vals.length vpc] 30 (0, 0))).alloc (.cells #[.bool B2.leaf, .slice kr B2.keys.length krc, .slice vr B2.vals.length vrc] 30 (0, 0))) = wq
      have hb := HA.out (.cells #[.bool A.leaf, .slice kp A.keys.length kpc, .slice vp A.vals.length vpc] 30 (0, 0)) (.cells #[.bool B2.leaf, .slice kr B2.keys.length krc, .slice vr B2.vals.length vrc] 30 (0, 0))
      rw [hwq] at hb
      clear hwq q0 q1 q2 HA
      have HX := Lib.hid (HX.out.keep hb HX.out.lt)
      have HN := Lib.hid (HN.out.keep hb HN.out.lt)
      have HW := Lib.hid (HW.out.keep hb HW.out.lt)
      have HY := Lib.hid (HY.out.keep hb HY.out.lt)
      have HIW := Lib.hid (HIW.out.keep hb)
      have HID := Lib.hid (HID.out.keep hb)
      have HIA := Lib.hid (HIA.out.keep hb)
      have HB := Lib.hid (HB.out.trans (hb.mono HB.out.size))
      clear hb
      have HVD : Hid (Value.agg #[.bool D.leaf, .slice kd D.keys.length kdc, .slice vd D.vals.length vdc] = nodeV kd kdc vd vdc D) := rfl
      rw [HVD.out]
      refine (without_any kd kdc vd vdc D a1 _ HID.out HZD.out).mono ?_
      rintro e wl ⟨v, rfl, _, hb⟩
      have HX := Lib.hid (HX.out.keep hb HX.out.lt)
      have HN := Lib.hid (HN.out.keep hb HN.out.lt)
      have HW := Lib.hid (HW.out.keep hb HW.out.lt)
      have HIW := Lib.hid (HIW.out.keep hb)
      have HB := Lib.hid (HB.out.trans (hb.mono HB.out.size))
      clear hb
      go_wp2_with fail
      have HN : Hid (Box wl.drew b7 30 #[.bool n0.leaf, .slice ka0 n0.keys.length kc0, .slice va0 n0.vals.length vc0]) := HN.out
      have HX : Hid (Box wl.drew w.heap.size 24 #[.bool n0.leaf, .slice ka0 n0.keys.length kc0, .slice va0 n0.vals.length vc0]) := HX.out
      have HW : Hid (Box wl.drew b8 24 #[.bool n0.leaf, .slice ka n0.keys.length kc, .slice va n0.vals.length vc]) := HW.out
      have HIW : Hid (NodeIn wl.drew ka va n0) := HIW.out.keep (Below.refl _ _).drew
      have HB : Hid (Below w.heap.size w wl.drew) := HB.out.drew
      refine wp_region_tree (fun W => W.cell? ⟨b7, 0, none⟩ = some (.bool n0.leaf) ∧ W.cell? ⟨b7, 1, none⟩ = some (.slice ka0 n0.keys.length kc0) ∧ W.cell? ⟨b7, 2, none⟩ = some (.slice va0 n0.vals.length vc0) ∧ W.cell? ⟨b8, 0, none⟩ = some (.bool n0.leaf) ∧ W.cell? ⟨b8, 1, none⟩ = some (.slice ka n0.keys.length kc) ∧ W.cell? ⟨b8, 2, none⟩ = some (.slice va n0.vals.length vc)) 3 (.quiet 0 (.quiet 2 (.make 1 .nil))) (by kernel_rfl) (by kernel_rfl) ⟨HN.out.cell 0 _ rfl, HN.out.cell 1 _ rfl, HN.out.cell 2 _ rfl, HW.out.cell 0 _ rfl, HW.out.cell 1 _ rfl, HW.out.cell 2 _ rfl⟩ ?_
      simp only [List.drop_succ_cons, List.drop_zero]
      iterate 2 (apply wpTr_step rfl; (intro W hS K hK; obtain ⟨q0, q1, q2, q3, q4, q5⟩ := hS; go_simp; exact hK _ rfl))
      refine wpTr_make rfl (fun K' hK => ?_)
      go_simp
      refine (told_node ka0 kc0 va0 vc0 n0 _).mono ?_
      rintro e wm ⟨rfl, hb⟩
      have HX := Lib.hid (HX.out.keep hb HX.out.lt)
      have HN := Lib.hid (HN.out.keep hb HN.out.lt)
      have HW := Lib.hid (HW.out.keep hb HW.out.lt)
      have HIW := Lib.hid (HIW.out.keep hb)
      have HB := Lib.hid (HB.out.trans (hb.mono HB.out.size))
      clear hb
      refine hK _ _ _ (fun _ h => h) ⟨HN.out.cell 0 _ rfl, HN.out.cell 1 _ rfl, HN.out.cell 2 _ rfl, HW.out.cell 0 _ rfl, HW.out.cell 1 _ rfl, HW.out.cell 2 _ rfl⟩ ?_
      clear hK K'
      refine wpTr_nil ?_
      have hsm : sameD n0 n0 = true := (same_iff _ _).2 rfl
      have HVW : Hid (Value.agg #[.bool n0.leaf, .slice ka n0.keys.length kc, .slice va n0.vals.length vc] = nodeV ka kc va vc n0) := rfl
      go_wp2_with fail
      try rw [HVW.out]
      try rw [HV.out]
      refine (rsame_any ka0 kc0 va0 vc0 n0 ka kc va vc n0 _ (HIN.out.keep HB.out) HIW.out).mono ?_
      rintro e wn ⟨rfl, hb⟩
      rw [hsm]
      have HX := Lib.hid (HX.out.keep hb HX.out.lt)
      have HN := Lib.hid (HN.out.keep hb HN.out.lt)
      have HW := Lib.hid (HW.out.keep hb HW.out.lt)
      have HIW := Lib.hid (HIW.out.keep hb)
      have HB := Lib.hid (HB.out.trans (hb.mono HB.out.size))
      clear hb
      go_wp2_with fail
      refine (live_any _).mono ?_
      rintro e wo ⟨rfl, hb⟩
      have HB := Lib.hid (HB.out.trans (hb.mono HB.out.size))
      clear hb
      go_wp2
      go_ret
      exact ⟨rfl, HB.out⟩
    · go_wp2_with fail
      generalize hwq : ((wj.alloc (.cells #[.bool A.leaf, .slice kp A.keys.length kpc, .slice vp A.vals.length vpc] 30 (0, 0))).alloc (.cells #[.bool B2.leaf, .slice kr B2.keys.length krc, .slice vr B2.vals.length vrc] 30 (0, 0))) = wq
      have hb := HA.out (.cells #[.bool A.leaf, .slice kp A.keys.length kpc, .slice vp A.vals.length vpc] 30 (0, 0)) (.cells #[.bool B2.leaf, .slice kr B2.keys.length krc, .slice vr B2.vals.length vrc] 30 (0, 0))
      rw [hwq] at hb
      clear hwq q0 q1 q2 HA
      have HX := Lib.hid (HX.out.keep hb HX.out.lt)
      have HN := Lib.hid (HN.out.keep hb HN.out.lt)
      have HW := Lib.hid (HW.out.keep hb HW.out.lt)
      have HY := Lib.hid (HY.out.keep hb HY.out.lt)
      have HIW := Lib.hid (HIW.out.keep hb)
      have HID := Lib.hid (HID.out.keep hb)
      have HIA := Lib.hid (HIA.out.keep hb)
      have HB := Lib.hid (HB.out.trans (hb.mono HB.out.size))
      clear hb
      have HVA : Hid (Value.agg #[.bool A.leaf, .slice kp A.keys.length kpc, .slice vp A.vals.length vpc] = nodeV kp kpc vp vpc A) := rfl
      rw [HVA.out]
      refine (with_any kp kpc vp vpc A a1 a2 _ HIA.out HZA.out HK1.out.2.1 HK1.out.2.2).mono ?_
      rintro e wr ⟨v, rfl, _, hb⟩
      have HX := Lib.hid (HX.out.keep hb HX.out.lt)
      have HN := Lib.hid (HN.out.keep hb HN.out.lt)
      have HW := Lib.hid (HW.out.keep hb HW.out.lt)
      have HY := Lib.hid (HY.out.keep hb HY.out.lt)
      have HIW := Lib.hid (HIW.out.keep hb)
      have HID := Lib.hid (HID.out.keep hb)
      have HB := Lib.hid (HB.out.trans (hb.mono HB.out.size))
      clear hb
      have q0 := HY.out.cell 0 _ rfl
      have q1 := HY.out.cell 1 _ rfl
      have q2 := HY.out.cell 2 _ rfl
      go_wp2_with fail
      clear q0 q1 q2
      have HVD : Hid (Value.agg #[.bool D.leaf, .slice kd D.keys.length kdc, .slice vd D.vals.length vdc] = nodeV kd kdc vd vdc D) := rfl
      rw [HVD.out]
      refine (without_any kd kdc vd vdc D a1 _ HID.out HZD.out).mono ?_
      rintro e wl ⟨v, rfl, _, hb⟩
      have HX := Lib.hid (HX.out.keep hb HX.out.lt)
      have HN := Lib.hid (HN.out.keep hb HN.out.lt)
      have HW := Lib.hid (HW.out.keep hb HW.out.lt)
      have HIW := Lib.hid (HIW.out.keep hb)
      have HB := Lib.hid (HB.out.trans (hb.mono HB.out.size))
      clear hb
      go_wp2_with fail
      have HN : Hid (Box wl.drew b7 30 #[.bool n0.leaf, .slice ka0 n0.keys.length kc0, .slice va0 n0.vals.length vc0]) := HN.out
      have HX : Hid (Box wl.drew w.heap.size 24 #[.bool n0.leaf, .slice ka0 n0.keys.length kc0, .slice va0 n0.vals.length vc0]) := HX.out
      have HW : Hid (Box wl.drew b8 24 #[.bool n0.leaf, .slice ka n0.keys.length kc, .slice va n0.vals.length vc]) := HW.out
      have HIW : Hid (NodeIn wl.drew ka va n0) := HIW.out.keep (Below.refl _ _).drew
      have HB : Hid (Below w.heap.size w wl.drew) := HB.out.drew
      refine wp_region_tree (fun W => W.cell? ⟨b7, 0, none⟩ = some (.bool n0.leaf) ∧ W.cell? ⟨b7, 1, none⟩ = some (.slice ka0 n0.keys.length kc0) ∧ W.cell? ⟨b7, 2, none⟩ = some (.slice va0 n0.vals.length vc0) ∧ W.cell? ⟨b8, 0, none⟩ = some (.bool n0.leaf) ∧ W.cell? ⟨b8, 1, none⟩ = some (.slice ka n0.keys.length kc) ∧ W.cell? ⟨b8, 2, none⟩ = some (.slice va n0.vals.length vc)) 3 (.quiet 0 (.quiet 2 (.make 1 .nil))) (by kernel_rfl) (by kernel_rfl) ⟨HN.out.cell 0 _ rfl, HN.out.cell 1 _ rfl, HN.out.cell 2 _ rfl, HW.out.cell 0 _ rfl, HW.out.cell 1 _ rfl, HW.out.cell 2 _ rfl⟩ ?_
      simp only [List.drop_succ_cons, List.drop_zero]
      iterate 2 (apply wpTr_step rfl; (intro W hS K hK; obtain ⟨q0, q1, q2, q3, q4, q5⟩ := hS; go_simp; exact hK _ rfl))
      refine wpTr_make rfl (fun K' hK => ?_)
      go_simp
      refine (told_node ka0 kc0 va0 vc0 n0 _).mono ?_
      rintro e wm ⟨rfl, hb⟩
      have HX := Lib.hid (HX.out.keep hb HX.out.lt)
      have HN := Lib.hid (HN.out.keep hb HN.out.lt)
      have HW := Lib.hid (HW.out.keep hb HW.out.lt)
      have HIW := Lib.hid (HIW.out.keep hb)
      have HB := Lib.hid (HB.out.trans (hb.mono HB.out.size))
      clear hb
      refine hK _ _ _ (fun _ h => h) ⟨HN.out.cell 0 _ rfl, HN.out.cell 1 _ rfl, HN.out.cell 2 _ rfl, HW.out.cell 0 _ rfl, HW.out.cell 1 _ rfl, HW.out.cell 2 _ rfl⟩ ?_
      clear hK K'
      refine wpTr_nil ?_
      have hsm : sameD n0 n0 = true := (same_iff _ _).2 rfl
      have HVW : Hid (Value.agg #[.bool n0.leaf, .slice ka n0.keys.length kc, .slice va n0.vals.length vc] = nodeV ka kc va vc n0) := rfl
      go_wp2_with fail
      try rw [HVW.out]
      try rw [HV.out]
      refine (rsame_any ka0 kc0 va0 vc0 n0 ka kc va vc n0 _ (HIN.out.keep HB.out) HIW.out).mono ?_
      rintro e wn ⟨rfl, hb⟩
      rw [hsm]
      have HX := Lib.hid (HX.out.keep hb HX.out.lt)
      have HN := Lib.hid (HN.out.keep hb HN.out.lt)
      have HW := Lib.hid (HW.out.keep hb HW.out.lt)
      have HIW := Lib.hid (HIW.out.keep hb)
      have HB := Lib.hid (HB.out.trans (hb.mono HB.out.size))
      clear hb
      go_wp2_with fail
      refine (live_any _).mono ?_
      rintro e wo ⟨rfl, hb⟩
      have HB := Lib.hid (HB.out.trans (hb.mono HB.out.size))
      clear hb
      go_wp2
      go_ret
      exact ⟨rfl, HB.out⟩
end Go.Proofs.Ytlkkgboaicjaiaa.nodeKeeps
