/-
  Texts put together: TcI, TcJ.
-/
import Derived.Test.YtbeldjijnjgbfaaMg25
namespace Go.Proofs.Ytbeldjijnjgbfaa
open Go Go.RowKit Go.ChangeShapes Go.WideShapes Go.ChangeAt

theorem results_tct {P : Program} {fn : Func} {p q u : Tmp} {ty : TypeId} (h : fn.results = #[.tmp p, .cell q ty, .tmp u]) (tmps : Array Value) (w : World) (g : Nat) (t : TypeId) (cs : Array Value) (fr : Nat × Nat) (d : TypeDesc)
    (hq : tmps.getD q undef = .pointer (some ⟨g, 0, none⟩)) (hg : w.heap[g]? = some (.cells cs t fr))
    (hu : P.underlying ty = some d) (hd : (match d with | .struct _ | .array _ _ => true | _ => false) = true) (hi : (P.info? ty).map (·.size) = some cs.size) :
    (results fn tmps).run P w = .ok (.tuple #[tmps.getD p undef, .agg cs, tmps.getD u undef]) w := by
  have hq' : tmps[q]?.getD undef = .pointer (some ⟨g, 0, none⟩) := by simpa using hq
  simp [results, h, hq', asAddr, run_loadVar_row w g t ty cs fr d hg hu hd hi]
theorem Abv.push {B : Nat} {W w' : World} {v v' : Value} {l : List StepD} {r : List StV} {x : NdV} {d : NodeD} {i : Nat} (_hr : Rw kSt W B v r) (hl : r.length = l.length)
    (hn : ∀ (i : Nat) (x : StV) (s : StepD), r[i]? = some x → l[i]? = some s → NdZ (fun k => B ≤ k ∧ v.ownBlock ≠ some k) W x.1 s.1 ∧ x.2 = s.2) (hx : NdZ (fun k => B ≤ k ∧ v.ownBlock ≠ some k) W x d)
    (h' : Rw kSt w' B v' (r ++ [(x, i)])) (hg : W.grownBy w' v.ownBlock) (ho : v'.ownBlock = v.ownBlock ∨ v'.ownBlock = some W.heap.size) : Abv B w' v' (l ++ [(d, i)]) := by
  have hc : Chg v.ownBlock.toList W w' := Chg.grown hg (fun k hk => by simp [hk])
  have key : ∀ (y : NdV) (e : NodeD), NdZ (fun k => B ≤ k ∧ v.ownBlock ≠ some k) W y e → NdZ (fun k => B ≤ k ∧ v'.ownBlock ≠ some k) w' y e := by
    intro y e hy
    have h1 := hy.chg hc (fun k hk hm => hk.2 (by simpa using hm))
    have h2 : ∀ k, k < W.heap.size → (B ≤ k ∧ v.ownBlock ≠ some k) → (B ≤ k ∧ v'.ownBlock ≠ some k) := fun k hk hz => ⟨hz.1, fun e => by
      rcases ho with h | h
      · exact hz.2 (h ▸ e)
      · rw [h] at e; injection e with e; omega⟩
    exact ⟨h1.leaf, h1.kn, h1.vn, h1.kr, h1.vr, fun k hk => h2 k (hy.kr.lt k hk) (hy.kz k hk), fun k hk => h2 k (hy.vr.lt k hk) (hy.vz k hk)⟩
  refine ⟨⟨r ++ [(x, i)], h', by simp [hl], fun j y s hy hs => ?_⟩⟩
  rcases Nat.lt_or_ge j r.length with hj | hj
  · rw [List.getElem?_append_left hj] at hy
    rw [List.getElem?_append_left (by omega)] at hs
    obtain ⟨h1, h2⟩ := hn j y s hy hs
    exact ⟨key _ _ h1, h2⟩
  · rw [List.getElem?_append_right hj] at hy
    rw [List.getElem?_append_right (by omega)] at hs
    have hj0 : j - r.length = 0 := by
      have := (List.getElem?_eq_some_iff.1 hy).1
      simp at this; omega
    rw [hj0] at hy
    rw [show j - l.length = 0 from by omega] at hs
    simp only [List.getElem?_cons_zero, Option.some.injEq] at hy hs
    subst hy hs
    exact ⟨key _ _ hx, rfl⟩
set_option maxRecDepth 100000 in
set_option maxHeartbeats 8000000 in
theorem down_any (kb : Nat) (F : List Nat) (S : StD) (root key : ByteArray) (w : World) (h : KpF kb S F w) (hr : root.size ≤ maxLen) (hk : key.size ≤ maxLen) :
    Calls Try.prog 26 #[kpV kb, .string root, .string key] w (DownTo (downT S root key) w) := by
  have HF := Lib.hid h
  have HR := Lib.hid hr
  have HKZ := Lib.hid hk
  clear h hr hk
  have BR : Hid (Box (w.alloc (.cells #[.bool false, .slice none 0 0, .slice none 0 0] 51 (0, 0))) w.heap.size 51 #[.bool false, .slice none 0 0, .slice none 0 0]) := Box.new _ _ _
  have BT : Hid (Box (w.alloc (.cells #[.bool true, .slice none 0 0, .slice none 0 0] 51 (0, 0))) w.heap.size 51 #[.bool true, .slice none 0 0, .slice none 0 0]) := Box.new _ _ _
  have HB0 : Hid (∀ o, Below w.heap.size w (w.alloc o)) := fun o => (Below.refl _ _).alloc (Nat.le_refl _) o
  obtain ⟨Q, hQ⟩ : ∃ Q, Q = downT S root key := ⟨_, rfl⟩
  obtain ⟨PS, hPS⟩ : ∃ PS, PS = DownTo Q w := ⟨_, rfl⟩
  rw [← hQ, ← hPS]
  have HPS := Lib.hid hPS
  have HQ0 := Lib.hid hQ
  clear hPS hQ
  by_cases h0 : root.size = 0
  · have HQ := Lib.hid (HQ0.out.trans (downT_nil h0))
    have := str_nil h0
    subst this
    clear h0
    go_enter Try.func26, Try.ntmps26
    go_wp2
    refine bodyPost_ret (results_tct rfl _ _ w.heap.size 51 _ (0, 0) _ rfl BT.out Try.underlying51 rfl sizeNode) rfl ?_
    rw [HPS.out, HQ.out]
    exact ⟨_, _, rfl, (Abv.nil _ _).st, ⟨_, _, rfl, Ks.nil _ _, Ks.nil _ _⟩, HB0.out _⟩
  · have HQ := Lib.hid (HQ0.out.trans (downT_some h0))
    obtain ⟨g1, g2⟩ := str_some root (by omega)
    clear h0
    go_enter Try.func26, Try.ntmps26
    go_wp2_with fail
    go_loopw [9, 10] (fun v s wr => ∃ (l : List StepD) (ref : ByteArray), l.length ≤ 20 ∧ lenV v = l.length ∧ s = .string ref ∧ Hid (ref.size ≤ maxLen) ∧ Hid (Q = downN S key (21 - l.length) l ref) ∧ Hid (Abv (w.heap.size + 1) wr v l) ∧ Hid (Box wr w.heap.size 51 #[.bool false, .slice none 0 0, .slice none 0 0]) ∧ Hid (Below w.heap.size w wr)) (fun v _ _ => 21 - lenV v)
    case atStart => exact ⟨[], root, Nat.zero_le _, rfl, rfl, HR, HQ, Abv.nil _ _, BR, HB0.out _⟩
    case round =>
      obtain ⟨l, ref, hl, hlv, rfl, HRF, HQ, HA, HX, HL⟩ := hrel
      obtain ⟨sa, sc, rfl⟩ := HA.out.form
      clear hlv
      have hld := load_any kb F S ref (l.length + 1) wr (HF.out.keep HL.out) HRF.out (by omega)
      rw [show ((l.length + 1 : Nat) : Int) = (l.length : Int) + 1 from by omega] at hld
      obtain ⟨q, hq⟩ : ∃ q, q = loadN S ref (l.length + 1) := ⟨_, rfl⟩
      rw [← hq] at hld
      have HLQ := Lib.hid hq
      have HLD := Lib.hid hld
      clear hld hq
      go_wp2_with fail
      refine HLD.out.mono ?_
      rintro e w1 ⟨nv, rfl, hn, hb⟩
      clear HLD
      obtain ⟨x, rfl, hx⟩ := hn.ndz
      have HN := Lib.hid hx
      have HA1 := Lib.hid (HA.out.keep hb)
      have HX1 := Lib.hid (HX.out.keep hb HX.out.lt)
      have HL1 := Lib.hid (HL.out.trans (hb.mono HL.out.size))
      have HZ : Hid (w.heap.size < wr.heap.size ∧ wr.heap.size ≤ w1.heap.size) := ⟨HX.out.lt, hb.size⟩
      have HBL : Hid (∀ k, (Value.slice sa l.length sc).ownBlock = some k → k < wr.heap.size) := by
        obtain ⟨r, h1, _⟩ := HA.out.ex
        exact h1.lt
      clear hb hx hn HA HX HL
      unfold NdV.val
      obtain ⟨w2, hw2⟩ : ∃ w2, w2 = w1.alloc (.cells #[.bool x.leaf, .slice x.ka x.kn x.kc, .slice x.va x.vn x.vc] 51 (0, 0)) := ⟨_, rfl⟩
      obtain ⟨m, hm⟩ : ∃ m, m = w1.heap.size := ⟨_, rfl⟩
      have BN : Hid (Box w2 m 51 #[.bool x.leaf, .slice x.ka x.kn x.kc, .slice x.va x.vn x.vc]) := by show Box _ _ _ _; rw [hw2, hm]; exact Box.new _ _ _
      have hb : Below w1.heap.size w1 w2 := by rw [hw2]; exact (Below.refl _ _).alloc (Nat.le_refl _) _
      have HN2 := Lib.hid (HN.out.keep hb)
      have HA2 := Lib.hid (HA1.out.keep hb)
      have HX2 := Lib.hid (HX1.out.keep hb HX1.out.lt)
      have HL2 := Lib.hid (HL1.out.trans (hb.mono HL1.out.size))
      have HM : Hid (wr.heap.size ≤ m ∧ w.heap.size < m) := by have := HZ.out; show _ ∧ _; omega
      have hw5 := hw2.symm
      have hm5 := hm.symm
      clear hb HN HA1 HX1 HL1 hw2 hm
      have b0 : w2.cell? ⟨m, 0, none⟩ = some (.bool x.leaf) := BN.out.cell 0 _ rfl
      have b1 : w2.cell? ⟨m, 1, none⟩ = some (.slice x.ka x.kn x.kc) := BN.out.cell 1 _ rfl
      have b2 : w2.cell? ⟨m, 2, none⟩ = some (.slice x.va x.vn x.vc) := BN.out.cell 2 _ rfl
      have r0 := HX2.out.cell 0 _ rfl
      have r1 := HX2.out.cell 1 _ rfl
      have r2 := HX2.out.cell 2 _ rfl
      have f0 := HX2.out.free 0
      have f1 := HX2.out.free 1
      have f2 := HX2.out.free 2
      by_cases hst : q.2 ≠ 0 ∨ q.1.leaf = true
      · have HST : Hid (Q = (l, q.1, q.2)) := by
          show _ = _
          rw [HQ.out, show 21 - l.length = (20 - l.length) + 1 from by omega, down_stop (by rw [← HLQ.out]; exact hst), ← HLQ.out]
        have HN3 : NodeOwn w2.drew w.heap.size x.val q.1 := (HN2.out.mono (Z' := (w.heap.size ≤ ·)) (fun k _ hk => by have := HZ.out; omega)).own
        have hke : ∀ k, x.k.ownBlock = some k → k ≠ w.heap.size := fun k hk => by have := HN2.out.kz k hk; have := HZ.out; omega
        have hve : ∀ k, x.v.ownBlock = some k → k ≠ w.heap.size := fun k hk => by have := HN2.out.vz k hk; have := HZ.out; omega
        have HX3 : Box w2.drew w.heap.size 51 #[.bool false, .slice none 0 0, .slice none 0 0] := HX2.out
        have HE := Lib.hid (node_end (w0 := w) HX3 (Nat.le_refl _) HL2.out.drew HN3 (fun e => hke _ e rfl) (fun e => hve _ e rfl))
        have HC3 := chg_set3 w2.drew w.heap.size (.bool x.leaf) (.slice x.ka x.kn x.kc) (.slice x.va x.vn x.vc)
        have BN3 : Box w2.drew m 51 #[.bool x.leaf, .slice x.ka x.kn x.kc, .slice x.va x.vn x.vc] := BN.out
        have BN4 := BN3.of (HC3.block m BN3.lt (by simp; have := HM.out; omega))
        have d0 := BN4.cell 0 _ rfl
        have d1 := BN4.cell 1 _ rfl
        have d2 := BN4.cell 2 _ rfl
        have HA3 : Abv (w.heap.size + 1) w2.drew (.slice sa l.length sc) l := HA2.out.chg (S := []) ((Chg.refl _ _).drew) (by simp)
        have HA4 := HA3.chg HC3 (by simp)
        have HAE : Hid (StZ (w.heap.size ≤ ·) _ (.slice sa l.length sc) l) := HA4.st.mono (fun k _ hk => by omega)
        clear HN3 hke hve HX3 HC3 BN3 BN4 HA3 HA4
        by_cases hc : q.2 = 0
        · have hlf : x.leaf = true := by rw [HN2.out.leaf]; rcases hst with h | h; exact absurd hc h; exact h
          clear hst
          rw [hc]
          rw [hc] at HST
          have he := HE.out
          have ha := HAE.out
          rw [hlf] at b0 d0 d1 d2 hw5 he ha
          rw [hlf]
          have HE := Lib.hid he
          have HAE := Lib.hid ha
          clear he ha hlf hc
          go_wp2_with fail
          refine wp_region_tree (fun W => W.cell? ⟨m, 0, none⟩ = some (.bool true) ∧ W.cell? ⟨m, 1, none⟩ = some (.slice x.ka x.kn x.kc) ∧ W.cell? ⟨m, 2, none⟩ = some (.slice x.va x.vn x.vc)) 5 (.quiet 0 (.quiet 1 (.quiet 2 (.quiet 3 (.make 4 .nil))))) (by kernel_rfl) (by kernel_rfl) ⟨b0, b1, b2⟩ ?_
          simp only [List.drop_succ_cons, List.drop_zero]
          iterate 4 (apply wpTr_step rfl; (intro W hS K hK; obtain ⟨q0, q1, q2⟩ := hS; go_simp; exact hK _ rfl))
          refine wpTr_make rfl (fun K' hK => ?_)
          go_simp
          refine hK _ _ _ (fun _ h => h) ⟨d0, d1, d2⟩ ?_
          clear hK K'
          refine wpTr_nil ?_
          go_wp2
          refine bodyPost_ret (results_tct rfl _ _ w.heap.size 51 _ (0, 0) _ rfl HE.out.1 Try.underlying51 rfl sizeNode) rfl ?_
          rw [HPS.out, HST.out]
          exact ⟨_, _, rfl, HAE.out, HE.out.2.1, HE.out.2.2⟩
        · have e1 : (q.2 != 0) = true := by simpa using hc
          clear hc hst
          generalize q.2 = c at *
          go_wp2_with fail
          refine wp_region_tree (fun W => W.cell? ⟨m, 0, none⟩ = some (.bool x.leaf) ∧ W.cell? ⟨m, 1, none⟩ = some (.slice x.ka x.kn x.kc) ∧ W.cell? ⟨m, 2, none⟩ = some (.slice x.va x.vn x.vc)) 5 (.quiet 0 (.quiet 1 (.quiet 2 (.quiet 3 (.make 4 .nil))))) (by kernel_rfl) (by kernel_rfl) ⟨b0, b1, b2⟩ ?_
          simp only [List.drop_succ_cons, List.drop_zero]
          iterate 4 (apply wpTr_step rfl; (intro W hS K hK; obtain ⟨q0, q1, q2⟩ := hS; go_simp; exact hK _ rfl))
          refine wpTr_make rfl (fun K' hK => ?_)
          go_simp
          refine hK _ _ _ (fun _ h => h) ⟨d0, d1, d2⟩ ?_
          clear hK K'
          refine wpTr_nil ?_
          go_wp2
          refine bodyPost_ret (results_tct rfl _ _ w.heap.size 51 _ (0, 0) _ rfl HE.out.1 Try.underlying51 rfl sizeNode) rfl ?_
          rw [HPS.out, HST.out]
          exact ⟨_, _, rfl, HAE.out, HE.out.2.1, HE.out.2.2⟩
      · have hc : q.2 = 0 := Classical.byContradiction fun h => hst (.inl h)
        have hlf0 : q.1.leaf = false := by simpa using fun h => hst (.inr h)
        have hlf : x.leaf = false := HN2.out.leaf.trans hlf0
        have HQ2 : Hid (Q = downN S key (20 - l.length) (l ++ [(q.1, (findD q.1 key).1)]) (q.1.vals.getD (findD q.1 key).1 noT)) := by
          show _ = _
          rw [HQ.out, show 21 - l.length = (20 - l.length) + 1 from by omega, down_go (by rw [← HLQ.out]; exact hst), ← HLQ.out]
        have hl20 : l.length + 1 ≤ 20 := load_h (by rw [← HLQ.out]; exact hc)
        have hin := load_in (S := S) (ref := ref) (h := l.length + 1) (by rw [← HLQ.out]; exact hc) (by rw [← HLQ.out]; exact hlf0)
        have hsm := load_sm S ref (l.length + 1)
        rw [← HLQ.out] at hin hsm
        have hfl := find_lt q.1 key hin.1 hin.2
        have HSM := Lib.hid hsm
        have HV : Hid (Value.agg #[.bool false, .slice x.ka x.kn x.kc, .slice x.va x.vn x.vc] = nodeV x.ka x.kc x.va x.vc q.1) := by
          show _ = _
          have h9 := HN2.out.val
          unfold NdV.val at h9
          rw [hlf] at h9
          exact h9
        rw [hc]
        rw [hlf] at b0 hw5
        rw [hlf]
        have HNV : Hid (x.vn = q.1.vals.length) := HN2.out.vn
        have HLF := Lib.hid hlf
        clear hst hc hlf0 hlf hin hsm HQ r0 r1 r2 f0 f1 f2
        go_wp2_with fail
        rw [HV.out]
        refine (find_any x.ka x.kc x.va x.vc q.1 key _ (HN2.out.nodeIn (by have := HSM.out.kl; omega) (by have := HSM.out.vl; omega)) HSM.out.max).mono ?_
        rintro e w3 ⟨rfl, hb⟩
        have HN3 := Lib.hid (HN2.out.keep hb)
        have HA3 := Lib.hid (HA2.out.keep hb)
        have HX3 := Lib.hid (HX2.out.keep hb HX2.out.lt)
        have HL3 := Lib.hid (HL2.out.trans (hb.mono HL2.out.size))
        have BN3 := Lib.hid (BN.out.keep hb BN.out.lt)
        obtain ⟨i, hi⟩ : ∃ i, i = (findD q.1 key).1 := ⟨_, rfl⟩
        rw [← hi] at hfl HQ2 ⊢
        generalize (findD q.1 key).2 = bf
        clear hb hi HN2 HA2 HX2 HL2 BN b0 b1 b2 hw5 hm5
        have b0 : w3.cell? ⟨m, 0, none⟩ = some (.bool false) := by have := BN3.out.cell 0 _ rfl; rw [HLF.out] at this; exact this
        have b1 : w3.cell? ⟨m, 1, none⟩ = some (.slice x.ka x.kn x.kc) := BN3.out.cell 1 _ rfl
        have b2 : w3.cell? ⟨m, 2, none⟩ = some (.slice x.va x.vn x.vc) := BN3.out.cell 2 _ rfl
        obtain ⟨w4, hw4⟩ : ∃ w4, w4 = w3.alloc (.cells #[.bool false, .slice x.ka x.kn x.kc, .slice x.va x.vn x.vc, .int .i64 (i : Int)] 91 (0, 0)) := ⟨_, rfl⟩
        have BS : Hid (Box w4 w3.heap.size 91 #[.bool false, .slice x.ka x.kn x.kc, .slice x.va x.vn x.vc, .int .i64 (i : Int)]) := by show Box _ _ _ _; rw [hw4]; exact Box.new _ _ _
        have hb : Below w3.heap.size w3 w4 := by rw [hw4]; exact (Below.refl _ _).alloc (Nat.le_refl _) _
        have HN4 := Lib.hid (HN3.out.keep hb)
        have HA4 := Lib.hid (HA3.out.keep hb)
        have HX4 := Lib.hid (HX3.out.keep hb HX3.out.lt)
        have HL4 := Lib.hid (HL3.out.trans (hb.mono HL3.out.size))
        have BN4 := Lib.hid (BN3.out.keep hb BN3.out.lt)
        have HW4 := Lib.hid hw4.symm
        clear hb hw4 HN3 HA3 HX3 HL3
        obtain ⟨r, hr, hrl, hrn⟩ := HA4.out.ex
        have HRL := Lib.hid hrl
        go_wp2_with (at_builtin; refine wp_rw_push kSt_ok Try.underlying63 _ rfl _ _ rfl (w.heap.size + 1) _ r rfl (by rw [HW4.out]; exact hr) w3.heap.size 1 (x, i) rfl ?c1 (by omega) (by rw [HW4.out]; have := HX4.out.lt; omega) ?_)
        case c1 =>
          intro j u hj
          rw [HW4.out]
          have hj2 : #[Value.bool false, .slice x.ka x.kn x.kc, .slice x.va x.vn x.vc, .int .i64 (i : Int)][j]? = some u := by rw [← hj]; show _ = (x.l ++ [.int .i64 (i : Int)])[j]?; unfold NdV.l; rw [HLF.out]; simp
          exact BS.out.cell j u hj2
        intro v' w5 hk5 hg5 ho5
        rw [HW4.out] at hg5
        have ho6 : v'.ownBlock = (Value.slice sa l.length sc).ownBlock ∨ v'.ownBlock = some w4.heap.size := by rw [← HW4.out]; simpa using ho5
        have hbm : ∀ k, (Value.slice sa l.length sc).ownBlock = some k → w.heap.size + 1 ≤ k ∧ k < wr.heap.size := fun k hk => ⟨hr.own_block k hk, HBL.out k hk⟩
        have hx4 := HN4.out.mono (Z' := fun k => w.heap.size + 1 ≤ k ∧ (Value.slice sa l.length sc).ownBlock ≠ some k) (fun k _ hk => ⟨by have := HZ.out; omega, fun e => by have := hbm k e; omega⟩)
        have HA5 := Lib.hid (Abv.push hr hrl hrn hx4 hk5 hg5 ho6)
        have hC5 : Chg (Value.slice sa l.length sc).ownBlock.toList w4 w5 := Chg.grown hg5 (fun k hk => by simp [hk])
        have HX5 := Lib.hid (HX4.out.of (hg5.block _ HX4.out.lt (fun e => by have := hbm _ e.symm; omega)))
        have BN5 := Lib.hid (BN4.out.of (hg5.block _ BN4.out.lt (fun e => by have := hbm _ e.symm; have := HM.out; omega)))
        have HN5 := HN4.out.chg hC5 (fun k hk hm => by have := hbm k (by simpa using hm); omega)
        have HL5 := Lib.hid (HL4.out.trans (hC5.below HL4.out.size (fun k hk => by have := hbm k (by simpa using hk); omega)))
        obtain ⟨va, vc2, hve, hvs⟩ := ks_form2 HN5.vr
        unfold NdV.v at hve
        injection hve with hva _ _
        rw [← hva] at hvs
        obtain ⟨vb, voff, hvx, _, hvc⟩ := hvs.get i hfl
        have b2 : w5.cell? ⟨m, 2, none⟩ = some (.slice x.va x.vn x.vc) := BN5.out.cell 2 _ rfl
        have h2i : (i : Int) < (x.vn : Int) := by rw [HNV.out]; omega
        have h0i : (0 : Int) ≤ (i : Int) := by omega
        have HGD : Hid (q.1.vals.getD i noT = q.1.vals[i]) := by show _ = _; simp [List.getD, hfl]
        have HSZ : Hid (q.1.vals[i].size ≤ maxLen) := HSM.out.max _ (List.mem_append_right _ (List.getElem_mem hfl))
        rw [HGD.out] at HQ2
        generalize q.1.vals[i] = rf at *
        rw [hvx] at b2
        obtain ⟨sa5, sc5, rfl⟩ := HA5.out.form
        have hll : (l ++ [(q.1, i)]).length = l.length + 1 := by simp
        have HLL := Lib.hid hll
        have HQ3 : Hid (Q = downN S key (21 - (l ++ [(q.1, i)]).length) (l ++ [(q.1, i)]) rf) := by show _ = _; rw [HQ2.out, hll, show 20 - l.length = 21 - (l.length + 1) from by omega]
        rw [hll] at HA5 ⊢
        clear hk5 hg5 ho5 ho6 hbm hx4 hC5 HN5 HL4 HX4 BN4 HN4 HA4 hr hrl hrn hvs hva hfl HQ2 hll HGD
        go_wp2
        go_roundw
        case rel => exact ⟨l ++ [(q.1, i)], rf, by rw [HLL.out]; omega, by rw [HLL.out]; rfl, rfl, HSZ, HQ3, HA5, HX5, HL5⟩
        case measure => simp [lenV]; omega
end Go.Proofs.Ytbeldjijnjgbfaa

namespace Go.Proofs.Ytbeldjijnjgbfaa
open Go Go.RowKit Go.ChangeShapes Go.WideShapes Go.ChangeAt

theorem split_len (d : NodeD) : (splitD d).1.keys.length = (splitD d).1.vals.length ∧ (splitD d).2.1.keys.length = (splitD d).2.1.vals.length := by
  unfold splitD
  split
  · rename_i h
    have hM := may_bounds h.1
    have := hM.eq
    simp only [List.length_take, List.length_drop]
    omega
  · exact ⟨rfl, rfl⟩
theorem split_sm {n : Nat} {d : NodeD} (h : SmN n d) : SmN n (splitD d).1 ∧ SmN n (splitD d).2.1 := by
  unfold splitD
  split
  · refine ⟨⟨?_, ?_, fun s hs => ?_⟩, ⟨?_, ?_, fun s hs => ?_⟩⟩
    · show (List.take _ _).length ≤ n; rw [List.length_take]; have := h.kl; omega
    · show (List.take _ _).length ≤ n; rw [List.length_take]; have := h.vl; omega
    · rcases List.mem_append.1 hs with h1 | h1
      · exact h.sz s (List.mem_append_left _ (List.mem_of_mem_take h1))
      · exact h.sz s (List.mem_append_right _ (List.mem_of_mem_take h1))
    · show (List.drop _ _).length ≤ n; rw [List.length_drop]; have := h.kl; omega
    · show (List.drop _ _).length ≤ n; rw [List.length_drop]; have := h.vl; omega
    · rcases List.mem_append.1 hs with h1 | h1
      · exact h.sz s (List.mem_append_left _ (List.mem_of_mem_drop h1))
      · exact h.sz s (List.mem_append_right _ (List.mem_of_mem_drop h1))
  · exact ⟨sm_nil n, sm_nil n⟩
theorem mem_ins {α : Type} : ∀ (l : List α) (i : Nat) (b a : α), a ∈ l.insertIdx i b → a = b ∨ a ∈ l
  | l, 0, b, a, h => by rw [List.insertIdx_zero, List.mem_cons] at h; exact h
  | [], i + 1, b, a, h => by simp at h
  | x :: r, i + 1, b, a, h => by
    rw [List.insertIdx_succ_cons, List.mem_cons] at h
    rcases h with h | h
    · exact .inr (by rw [h]; simp)
    · rcases mem_ins r i b a h with h | h
      · exact .inl h
      · exact .inr (List.mem_cons_of_mem _ h)
theorem with_sm {n : Nat} {d : NodeD} {k v : ByteArray} (h : SmN n d) (hk : k.size ≤ 65535) (hv : v.size ≤ 65535) : SmN (n + 1) (withD d k v) := by
  unfold withD
  split
  · split
    · refine ⟨Nat.le_succ_of_le h.kl, by show (List.set _ _ _).length ≤ _; rw [List.length_set]; exact Nat.le_succ_of_le h.vl, fun s hs => ?_⟩
      rcases List.mem_append.1 hs with h1 | h1
      · exact h.sz s (List.mem_append_left _ h1)
      · rcases List.mem_or_eq_of_mem_set h1 with h2 | h2
        · exact h.sz s (List.mem_append_right _ h2)
        · rw [h2]; exact hv
    · refine ⟨?_, ?_, fun s hs => ?_⟩
      · exact Nat.le_trans (List.length_insertIdx_le_succ ..) (Nat.succ_le_succ h.kl)
      · exact Nat.le_trans (List.length_insertIdx_le_succ ..) (Nat.succ_le_succ h.vl)
      · rcases List.mem_append.1 hs with h1 | h1
        · rcases mem_ins _ _ _ _ h1 with h2 | h2
          · rw [h2]; exact hk
          · exact h.sz s (List.mem_append_left _ h2)
        · rcases mem_ins _ _ _ _ h1 with h2 | h2
          · rw [h2]; exact hv
          · exact h.sz s (List.mem_append_right _ h2)
  · exact h.mono (Nat.le_succ _)
theorem without_sm {n : Nat} {d : NodeD} {k : ByteArray} (h : SmN n d) : SmN n (withoutD d k) := by
  unfold withoutD
  split
  · refine ⟨Nat.le_trans (List.length_eraseIdx_le ..) h.kl, Nat.le_trans (List.length_eraseIdx_le ..) h.vl, fun s hs => ?_⟩
    rcases List.mem_append.1 hs with h1 | h1
    · exact h.sz s (List.mem_append_left _ (List.mem_of_mem_eraseIdx h1))
    · exact h.sz s (List.mem_append_right _ (List.mem_of_mem_eraseIdx h1))
  · exact h
theorem parts_nil {d : NodeD} (h : d.keys = []) : partsN d = [] := if_pos h
theorem parts_one {d : NodeD} (h : d.keys ≠ []) (h2 : chkN d = 0) : partsN d = [d] := by unfold partsN; rw [if_neg h, if_pos h2]
theorem parts_move {d : NodeD} (h : d.keys ≠ []) (h2 : chkN d ≠ 0) (h3 : d.leaf = false ∧ (splitD d).2.1.keys.length = 1 ∧ 2 < (splitD d).1.keys.length) :
    partsN d = [withoutD (splitD d).1 ((splitD d).1.keys.getLastD noT), withD (splitD d).2.1 ((splitD d).1.keys.getLastD noT) ((splitD d).1.vals.getLastD noT)] := by unfold partsN; rw [if_neg h, if_neg h2, if_pos h3]
theorem parts_two {d : NodeD} (h : d.keys ≠ []) (h2 : chkN d ≠ 0) (h3 : ¬ (d.leaf = false ∧ (splitD d).2.1.keys.length = 1 ∧ 2 < (splitD d).1.keys.length)) : partsN d = [(splitD d).1, (splitD d).2.1] := by unfold partsN; rw [if_neg h, if_neg h2, if_neg h3]
theorem nodes_lit (w : World) (c : Nat) (r : List NdV) (hr : r.length ≤ c) (hc : c = r.length) (hm : c ≤ 1000) : Rw kNd (w.alloc (.cells (r.flatMap NdV.l).toArray 51 (0, 0))) 0 (.slice (some ⟨w.heap.size, 0, none⟩) r.length c) r := by
  have hfl : (r.flatMap NdV.l).length = r.length * 3 := flat_len NdV.l 3 (fun _ => rfl) r
  subst hc
  refine ⟨hfl, .inr ⟨w.heap.size, r.length, (r.flatMap NdV.l).toArray, rfl, Nat.zero_le _, (MapKept.heap_alloc w _).1, Nat.le_refl _, by unfold maxLen; omega, by rw [List.size_toArray, hfl]; rfl, ?_⟩⟩
  rw [List.take_of_length_le]
  · rfl
  · show (r.flatMap NdV.l).length ≤ r.length * 3
    rw [hfl]; exact Nat.le_refl _
end Go.Proofs.Ytbeldjijnjgbfaa
