/-
  Contract: Hot of a heat.
-/
import Derived.Test.YtgdlnifncmiebaaHeatL
import Derived.Test.YtgdlnifncmiebaaHeatF
namespace Go.Proofs.Ytgdlnifncmiebaa
open Go.RowKit Go.ChangeShapes Go.WideShapes Go.ChangeAt

def vlen : Value → Nat
  | .slice _ n _ => n
  | _ => 0
theorem ks_vlen {w : World} {B : Nat} {v : Value} {l : List ByteArray} (h : Ks w B v l) : vlen v = l.length := by
  rcases h.form with ⟨rfl, rfl⟩ | ⟨g, cap, rfl, _⟩ <;> rfl
theorem drain_nil (n : Nat) : drainL hotter n [] = [] := by cases n <;> rfl
theorem drain_step {n : Nat} {l : List ItD} (h : 0 < l.length) : drainL hotter (n + 1) l = (popL hotter l).2 :: drainL hotter n (popL hotter l).1 := by
  rw [drainL, if_neg (by intro e; rw [e] at h; simp at h)]
/-- Pop off it. -/
theorem qv_pop (B : Nat) (q : Nat) (v : Value) (l : List ItD) (w : World) (h : QV B w q v l) (h0 : 0 < l.length) (hlen : l.length ≤ 90000) :
    Calls Try.prog 26 #[.iface 58 (.pointer (some ⟨q, 0, none⟩))] w fun e w' => e = .returned (.iface 61 (.agg #[.string (popL hotter l).2.1, .int .i64 (popL hotter l).2.2])) ∧ ∃ v', QV B w' q v' (popL hotter l).1 ∧ v'.ownBlock = v.ownBlock ∧ ∃ S, Chg S w w' ∧ (∀ k ∈ S, B ≤ k) ∧ (∀ k ∈ S, k = q ∨ v.ownBlock = some k) := by
  rcases h.row.form with ⟨_, rfl⟩ | ⟨g, cap, rfl, hg, _⟩
  · simp at h0
  · have hne : g ≠ q := fun e => h.ne (by rw [e]; rfl)
    refine (hpop_any q g cap l w ⟨h.box, its_low h.row (Nat.zero_le _), hne⟩ h0 (by omega)).mono ?_
    rintro e w' ⟨rfl, hq, hc⟩
    refine ⟨rfl, _, ⟨hq.box, its_high hq.row (fun k hk => ?_), ?_, h.lo⟩, rfl, _, hc, ?_, ?_⟩
    · simp only [Value.ownBlock, Option.some.injEq] at hk
      omega
    · simp only [Value.ownBlock, ne_eq, Option.some.injEq]
      exact hne
    · intro k hk
      simp only [List.mem_cons, List.not_mem_nil, or_false] at hk
      rcases hk with rfl | rfl
      · exact h.lo
      · exact hg
    · intro k hk
      simp only [List.mem_cons, List.not_mem_nil, or_false] at hk
      rcases hk with rfl | rfl
      · exact .inl rfl
      · exact .inr rfl

set_option maxRecDepth 100000 in
set_option maxHeartbeats 4000000 in
theorem hot_any (b : Nat) (F : List Nat) (l : List MkD) (now n : Int) (w : World) (h : HeatF b l F w) (hok : OkM l) (hn : now ≤ 9223372036854775807) :
    Calls Try.prog 19 #[.pointer (some ⟨b, 0, none⟩), .int .i64 now, .int .i64 n] w fun e w' => ∃ v, e = .returned v ∧ Ks w' w.heap.size v (hotM l now n) ∧ Below w.heap.size w w' := by
  have HQ := Lib.hid (queue_any b F l now w h hok hn)
  have HLN : Hid ((itemsM l now).length ≤ 80000) := Nat.le_trans (items_len l now) hok.1
  obtain ⟨H, hH⟩ : ∃ H, H = hotM l now n := ⟨_, rfl⟩
  have HH := Lib.hid hH
  rw [← hH]
  clear h hok hn hH
  go_enter Try.func19, Try.ntmps19
  go_wp2_with fail
  refine HQ.out.mono ?_
  rintro e w1 ⟨q, v0, lq0, rfl, hqv, hhp, hpm, hb⟩
  have HDR : Hid ((drainL hotter n.toNat lq0).map (·.1) = H) := by
    show _ = _
    rw [HH.out, drain_eq hotter_strict n.toNat lq0 _ hhp ((sort_perm _).trans hpm.symm) (sort_order _)]
    rfl
  have HL0 : Hid (lq0.length ≤ 80000) := by have := hpm.length_eq; have := HLN.out; show lq0.length ≤ 80000; omega
  have HQ0 := Lib.hid hqv
  have HH0 := Lib.hid hhp
  have HB0 := Lib.hid hb
  clear HQ hqv hhp hpm hb
  go_wp2_with fail
  go_loopw [8] (fun s wr => ∃ (sv : Value) (hl : List ByteArray) (v : Value) (lq : List ItD), sv = s ∧ Hid (Ks wr w.heap.size sv hl) ∧ Hid (hl.length ≤ 80000) ∧ Hid (QV w.heap.size wr q v lq) ∧ Hid (HeapP hotter lq lq.length) ∧ Hid (lq.length + hl.length ≤ 80000) ∧ Hid (∀ k, sv.ownBlock = some k → k ≠ q ∧ v.ownBlock ≠ some k) ∧
      Hid (hl ++ (drainL hotter (n.toNat - hl.length) lq).map (·.1) = H) ∧ Hid (Below w.heap.size w wr))
    (fun s _ => n.toNat - vlen s)
  case atStart =>
    refine ⟨_, [], v0, lq0, rfl, Ks.nil _ _, ?_, HQ0, HH0, ?_, ?_, ?_, HB0⟩
    · exact Nat.zero_le _
    · exact HL0.out
    · exact fun k hk => by cases hk
    · exact HDR.out
  case round =>
    rename_i hkl
    obtain ⟨sv, hl, v, lq, rfl, HKS, HHL, HQV, HHP, HLL, HSP, HEQ, HBB⟩ := hrel
    obtain ⟨sa, sc, hsf⟩ : ∃ sa sc, sv = .slice sa hl.length sc := by
      rcases HKS.out.form with ⟨rfl, rfl⟩ | ⟨g, cap, rfl, _⟩
      · exact ⟨_, _, rfl⟩
      · exact ⟨_, _, rfl⟩
    obtain ⟨qa, qc, hqf⟩ : ∃ qa qc, v = .slice qa lq.length qc := by
      rcases HQV.out.row.form with ⟨rfl, rfl⟩ | ⟨g, cap, rfl, _⟩
      · exact ⟨_, _, rfl⟩
      · exact ⟨_, _, rfl⟩
    subst hsf
    subst hqf
    have HNN : Hid (∀ a, a = hl.length → (vlen (.slice sa hl.length sc) = a)) := fun a e => e.symm
    by_cases h1 : ((hl.length : Nat) : Int) < n
    · have h1d : decide (((hl.length : Nat) : Int) < n) = true := by simpa using h1
      have c0 := HQV.out.box.cell 0 _ rfl
      by_cases h2 : 0 < lq.length
      · clear hkl
        have h2d : decide ((0 : Int) < ((lq.length : Nat) : Int)) = true := by simpa using h2
        have HP := Lib.hid (qv_pop w.heap.size q (.slice qa lq.length qc) lq wr HQV.out h2 (by have := HLL.out; omega))
        go_wp2_with fail
        refine (qlen _ _ _ _).mono ?_
        rintro e w2 ⟨rfl, rfl⟩
        go_wp2_with fail
        refine HP.out.mono ?_
        rintro e w3 ⟨rfl, v3, hq3, ho3, S, hS1, hS2, hS3⟩
        have HHP3 : Hid (HeapP hotter (popL hotter lq).1 (popL hotter lq).1.length) := pop_heap hotter_strict h2 HHP.out
        have HPL : Hid ((popL hotter lq).1.length + 1 = lq.length) := pop_len h2
        obtain ⟨mm, hmm⟩ : ∃ mm, n.toNat - hl.length = mm + 1 := ⟨n.toNat - hl.length - 1, by omega⟩
        have HMM : Hid (n.toNat - (hl.length + 1) = mm) := by show _ = _; omega
        have HEQ3 : Hid (hl ++ [(popL hotter lq).2.1] ++ (drainL hotter mm (popL hotter lq).1).map (·.1) = H) := by
          have := HEQ.out
          rw [hmm, drain_step h2] at this
          show _ = _
          simpa using this
        clear hmm
        generalize popL hotter lq = pr at *
        obtain ⟨lq2, xk, xw⟩ := pr
        dsimp only at hq3 HHP3 HPL HEQ3 ⊢
        have ht := ta_item (.agg #[.string xk, .int .i64 xw]) w3
        have HK3 : Hid (∀ o1 o2, Ks ((w3.alloc o1).alloc o2) w.heap.size (.slice sa hl.length sc) hl) := fun o1 o2 => ((HKS.out.chg hS1 (fun k hk hm => by
          rcases hS3 k hm with h | h
          · exact (HSP.out k hk).1 h
          · exact (HSP.out k hk).2 h)).alloc o1).alloc o2
        have HQ3 : Hid (∀ o1 o2, QV w.heap.size ((w3.alloc o1).alloc o2) q v3 lq2) := fun o1 o2 => (hq3.chg (((Chg.refl [] w3).alloc o1).alloc o2) (by simp) (by simp))
        have HB3 : Hid (Below w.heap.size w w3) := HBB.out.trans (hS1.below HBB.out.size hS2)
        have HBA : Hid (∀ o1 o2, Below w.heap.size w ((w3.alloc o1).alloc o2)) := fun o1 o2 => (HB3.out.alloc HB3.out.size o1).alloc (by rw [size_alloc]; have := HB3.out.size; omega) o2
        have HO3 : Hid (v3.ownBlock = (Value.slice qa lq.length qc).ownBlock) := ho3
        have HVL := Lib.hid hq3.row.lt
        have HQL : Hid (q < w3.heap.size) := hq3.box.lt
        have HQN : Hid (v3.ownBlock ≠ some q) := hq3.ne
        clear hq3 ho3 hS1 hS2 hS3 h2d h1d c0 HP
        go_wp2_with (at_builtin; refine wp_keys_push _ rfl _ _ rfl w.heap.size (.slice sa hl.length sc) hl rfl (HK3.out _ _) ⟨w3.heap.size + 1, 0, none⟩ 1 1 [xk] rfl rfl ?c1 (by have := HHL.out; omega) (HBA.out _ _).size ?_)
        case c1 =>
          intro i u hu
          match i, hu with
          | 0, hu =>
            simp only [List.getElem?_cons_zero, Option.some.injEq] at hu
            subst hu
            have := boxed0 (w3.alloc (.cells #[.string xk, .int .i64 xw] 61)) #[.string xk] 9 (0, 0) 0 _ rfl
            rw [size_alloc] at this
            exact this
        intro v' w4 hk hg ho
        have HKS4 : Hid (Ks w4 w.heap.size v' (hl ++ [xk])) := hk
        have HCG : Chg (Value.slice sa hl.length sc).ownBlock.toList ((w3.alloc (.cells #[.string xk, .int .i64 xw] 61)).alloc (.cells #[.string xk] 9)) w4 := Chg.grown hg (fun k hk => by simp [hk])
        have HB4 : Hid (Below w.heap.size w w4) := (HBA.out _ _).trans (HCG.below (HBA.out _ _).size (fun k hk => HKS.out.own_block k (by simpa using hk)))
        have HQ4 : Hid (QV w.heap.size w4 q v3 lq2) := (HQ3.out _ _).chg HCG (fun hm => (HSP.out q (by simpa using hm)).1 rfl) (fun k hk hm => (HSP.out k (by simpa using hm)).2 (by rw [← HO3.out]; exact hk))
        have HSP4 : Hid (∀ k, v'.ownBlock = some k → k ≠ q ∧ v3.ownBlock ≠ some k) := by
          intro k hk
          rcases ho with ho | ho
          · rw [ho] at hk
            rw [HO3.out]
            exact HSP.out k hk
          · rw [ho] at hk
            simp only [Option.some.injEq] at hk
            try rw [size_alloc, size_alloc] at hk
            have h5 := HQL.out
            refine ⟨by omega, fun e => ?_⟩
            have := HVL.out k e
            omega
        have HLEN : Hid (vlen v' = hl.length + 1) := by
          have := ks_vlen hk
          show _ = _
          simpa using this
        have HLN2 : Hid ((hl ++ [xk]).length = hl.length + 1) := by show _ = _; simp
        clear hk hg ho HCG
        go_wp2
        go_roundw
        case rel =>
          refine ⟨v', hl ++ [xk], v3, lq2, rfl, HKS4, ?_, HQ4, HHP3, ?_, HSP4, ?_, HB4⟩
          · have := HLN2.out; have := HLL.out; show (hl ++ [xk]).length ≤ 80000; omega
          · have := HLN2.out; have := HLL.out; have := HPL.out; show lq2.length + (hl ++ [xk]).length ≤ 80000; omega
          · show _ = _
            rw [HLN2.out, HMM.out]
            exact HEQ3.out
        case measure =>
          rw [HLEN.out]
          show n.toNat - (hl.length + 1) < n.toNat - hl.length
          omega
      · have hz : lq = [] := List.eq_nil_of_length_eq_zero (by omega)
        have h2d : decide ((0 : Int) < ((lq.length : Nat) : Int)) = false := by simpa using h2
        go_wp2_with fail
        refine (qlen _ _ _ _).mono ?_
        rintro e w2 ⟨rfl, rfl⟩
        go_wp2
        go_ret
        have := HEQ.out
        rw [hz, drain_nil] at this
        simp only [List.map_nil, List.append_nil] at this
        rw [← this]
        exact ⟨_, rfl, HKS.out, HBB.out⟩
    · have h1d : decide (((hl.length : Nat) : Int) < n) = false := by simpa using h1
      go_wp2_with fail
      go_ret
      have := HEQ.out
      rw [show n.toNat - hl.length = 0 by omega] at this
      simp only [drainL, List.map_nil, List.append_nil] at this
      rw [← this]
      exact ⟨_, rfl, HKS.out, HBB.out⟩
end Go.Proofs.Ytgdlnifncmiebaa
