/-
  Decode.
-/
import Derived.Test.YtbeldjijnjgbfaaMg19
namespace Go.Proofs.Ytbeldjijnjgbfaa
open Go.RowKit Go.ChangeShapes Go.WideShapes Go.ChangeAt

theorem results_cell2 {P : Program} {fn : Func} {p u : Tmp} {ty : TypeId} (h : fn.results = #[.cell p ty, .tmp u]) (tmps : Array Value) (w : World) (g : Nat) (t : TypeId) (cs : Array Value) (fr : Nat × Nat) (d : TypeDesc)
    (hp : tmps.getD p undef = .pointer (some ⟨g, 0, none⟩)) (hg : w.heap[g]? = some (.cells cs t fr))
    (hu : P.underlying ty = some d) (hd : (match d with | .struct _ | .array _ _ => true | _ => false) = true) (hi : (P.info? ty).map (·.size) = some cs.size) :
    (results fn tmps).run P w = .ok (.tuple #[.agg cs, tmps.getD u undef]) w := by
  rw [results_cell_tmp h, hp]
  simp [asAddr, run_loadVar_row w g t ty cs fr d hg hu hd hi]
theorem ents_size (s : ByteArray) (b : Bool) : ∀ n, ∀ t ∈ (ofE b (entsK s n)).keys ++ (ofE b (entsK s n)).vals, t.size ≤ 65536 := by
  intro n
  have key : ∀ n, ∀ x ∈ entsK s n, x.1.size ≤ 65536 ∧ x.2.size ≤ 65536 := by
    intro n
    induction n with
    | zero => intro x hx; cases hx
    | succ n ih =>
      intro x hx
      rw [entsK] at hx
      rcases List.mem_append.1 hx with h | h
      · exact ih x h
      · rw [List.mem_singleton] at h
        subst h
        have a1 := valB_size s (posK s n + 2) (valN s (posK s n) 2)
        have a2 := valN_lt s (posK s n) 2
        have a3 := valB_size s (posK s n + 2 + valN s (posK s n) 2 + 1) (valN s (posK s n + 2 + valN s (posK s n) 2) 1)
        have a4 := valN_lt s (posK s n + 2 + valN s (posK s n) 2) 1
        refine ⟨?_, ?_⟩
        · show (valB _ _ _).size ≤ _; omega
        · show (valB _ _ _).size ≤ _; omega
  intro t ht
  rcases List.mem_append.1 ht with h | h
  · obtain ⟨x, hx, rfl⟩ := List.mem_map.1 h; exact (key n x hx).1
  · obtain ⟨x, hx, rfl⟩ := List.mem_map.1 h; exact (key n x hx).2
/-- What Decode answers. -/
def DecTo (q : NodeD × Int) (w : World) (e : Ending) (w' : World) : Prop := ∃ v, e = .returned (.tuple #[v, .int .i64 q.2]) ∧ NodeOwn w' w.heap.size v q.1 ∧ Below w.heap.size w w'
/-- A node's two rows lie in blocks of their own. -/
def NodeSep (v : Value) : Prop := ∀ b kv vv, v = .agg #[b, kv, vv] → ∀ k, kv.ownBlock = some k → vv.ownBlock ≠ some k
theorem sep_nil : NodeSep (.agg #[.bool false, .slice none 0 0, .slice none 0 0]) := by
  intro b kv vv e k hk
  simp only [Value.agg.injEq, Array.mk.injEq, List.cons.injEq, and_true] at e
  rw [← e.2.1] at hk
  cases hk
theorem MNode.sep {T : TypeId} {w : World} {B br bm : Nat} {leaf : Bool} {kv vv : Value} {ks vs : List ByteArray} (h : MNode T w B br bm leaf kv vv ks vs) : NodeSep (.agg #[.bool leaf, kv, vv]) := by
  intro b k2 v2 e k hk
  simp only [Value.agg.injEq, Array.mk.injEq, List.cons.injEq, and_true] at e
  rw [← e.2.1] at hk
  rw [← e.2.2]
  exact h.ne k hk
def DecTo2 (q : NodeD × Int) (w : World) (e : Ending) (w' : World) : Prop := ∃ v, e = .returned (.tuple #[v, .int .i64 q.2]) ∧ NodeOwn w' w.heap.size v q.1 ∧ NodeSep v ∧ Below w.heap.size w w'
theorem MNode.chg {T : TypeId} {w w' : World} {B br bm rb : Nat} {leaf : Bool} {kv vv : Value} {ks vs : List ByteArray} (h : MNode T w B br bm leaf kv vv ks vs) (hc : Chg [rb] w w') (h1 : rb ≠ br) (h2 : rb ≠ bm) (h3 : rb < B) : MNode T w' B br bm leaf kv vv ks vs :=
  ⟨h.res.of (hc.block br h.res.lt (by simpa using fun e => h1 e.symm)), h.box.of (hc.block bm h.box.lt (by simpa using fun e => h2 e.symm)), h.kr.chg hc (fun k hk hm => by simp at hm; have := h.kr.own_block k hk; omega), h.vr.chg hc (fun k hk hm => by simp at hm; have := h.vr.own_block k hk; omega), h.ne, h.kb, h.vb, h.lt, h.lm⟩
set_option maxRecDepth 100000 in
set_option maxHeartbeats 4000000 in
theorem decode_sep (s : ByteArray) (w : World) (hs : s.size ≤ 100000) : Calls Try.prog 22 #[.string s] w (DecTo2 (decP s) w) := by
  obtain ⟨PS, hPS⟩ : ∃ PS, PS = DecTo2 (decP s) w := ⟨_, rfl⟩
  rw [← hPS]
  have HPS := Lib.hid hPS
  have HSZ := Lib.hid hs
  clear hPS hs
  have HRX : Hid (Box (w.alloc (.cells #[.bool false, .slice none 0 0, .slice none 0 0] 51)) w.heap.size 51 #[.bool false, .slice none 0 0, .slice none 0 0]) := Box.new _ _ _
  have HBX : Hid (∀ o, Below w.heap.size w (w.alloc o)) := fun o => (Below.refl _ _).alloc (Nat.le_refl _) o
  go_enter Try.func22, Try.ntmps22
  go_wp2_with fail
  refine (read_pos s _).mono ?_
  rintro e w1 ⟨rfl, hr1, hb1⟩
  obtain ⟨rb, hrb⟩ : ∃ rb, rb = w.heap.size + 1 := ⟨_, rfl⟩
  rw [size_alloc] at hr1 hb1
  rw [size_alloc]
  rw [← hrb] at hr1 hb1 ⊢
  have HR1 := HRX.out.keep hb1 (by omega)
  have HB1 := (HBX.out _).trans (hb1.mono (by omega))
  have HLT : Hid (rb = w.heap.size + 1) := hrb
  clear hrb hb1 HRX HBX
  have HBB := Lib.hid HB1
  have HRR := Lib.hid HR1
  have HRP := Lib.hid hr1
  clear HB1 HR1 hr1
  go_wp2_with fail
  refine (bytes_pos rb s 0 1 _ HRP.out).mono ?_
  rintro e w2 ⟨rfl, hr2, hb2⟩
  have HRP2 := Lib.hid hr2
  have HRR2 := Lib.hid (HRR.out.of (hb2.block w.heap.size HRR.out.lt (fun e => by injection e with e; have := HLT.out; omega)))
  have HBB2 := Lib.hid (HBB.out.trans (hb2.below' (by have := HLT.out; omega) HBB.out.size))
  clear hr2 hb2 HRP HRR HBB
  have e1 := beq_key (valB s 0 1) ⟨#[76]⟩
  have e2 := beq_key (valB s 0 1) ⟨#[73]⟩
  rw [show (⟨#[76]⟩ : ByteArray).toList = [76] by rw [ByteArray.toList_eq]] at e1
  rw [show (⟨#[73]⟩ : ByteArray).toList = [73] by rw [ByteArray.toList_eq]] at e2
  have HD : Hid (decP s = decP s) := rfl
  have HDL : Hid ((rawD s).leaf = decide (valB s 0 1 = ⟨#[76]⟩)) := rfl
  obtain ⟨L, hL⟩ : ∃ L, L = decide (valB s 0 1 = ⟨#[76]⟩) := ⟨_, rfl⟩
  obtain ⟨I, hI⟩ : ∃ I, I = decide (valB s 0 1 = ⟨#[73]⟩) := ⟨_, rfl⟩
  rw [← hL] at e1 HDL
  rw [← hI] at e2
  have HLL := Lib.hid hL
  have HII := Lib.hid hI
  generalize hmk : valB s 0 1 = mk at *
  have HMK := Lib.hid hmk
  clear hL hI hmk
  have HBA : Hid (∀ o, Below w2.heap.size w2 (w2.alloc o)) := fun o => (Below.refl _ _).alloc (Nat.le_refl _) o
  have HMM := Lib.hid (MNode.mk' (leaf := L) HRR2.out (Ks.nil w2 w2.heap.size) (Ks.nil w2 w2.heap.size) (fun k hk => by cases hk) HRR2.out.lt)
  have HRPA : Hid (∀ o, RdPos (w2.alloc o) rb s (0 + 1)) := fun o => rdpos_of HRP2.out ((HBA.out o).block rb (rdpos_lt HRP2.out))
  have HE1 := Lib.hid e1
  have HE2 := Lib.hid e2
  clear e1 e2
  go_wp2_with fail
  rw [HE1.out]
  generalize hwy : w2.alloc (.cells #[.bool L, .slice none 0 0, .slice none 0 0] 51 (0, 0)) = wy
  have HM3 := HMM
  have HR3 := HRPA.out (.cells #[.bool L, .slice none 0 0, .slice none 0 0] 51 (0, 0))
  have HB3 := HBB2.out.trans ((HBA.out (.cells #[.bool L, .slice none 0 0, .slice none 0 0] 51 (0, 0))).mono HBB2.out.size)
  rw [hwy] at HM3 HR3 HB3
  obtain ⟨bm, hbm⟩ : ∃ bm, bm = w2.heap.size := ⟨_, rfl⟩
  rw [← hbm] at HM3 ⊢
  have HLM : Hid (rb < bm ∧ w.heap.size < rb) := ⟨by rw [hbm]; exact rdpos_lt HRP2.out, by have := HLT.out; omega⟩
  clear hwy hbm HMM HRPA HBB2 HBA HRP2 HRR2
  refine (number_pos rb s 1 1 (by omega) (by omega) _ HR3).mono ?_
  rintro e w4 ⟨rfl, hr4, hb4⟩
  have hc4 := Chg.only hb4
  have HNE : Hid (rb ≠ w.heap.size ∧ rb ≠ bm ∧ rb < bm) := ⟨by have := HLM.out; omega, by have := HLM.out; omega, HLM.out.1⟩
  have HLO : Hid (w.heap.size ≤ rb) := Nat.le_of_lt HLM.out.2
  have HM0 := Lib.hid (HM3.out.chg hc4 HNE.out.1 HNE.out.2.1 HNE.out.2.2)
  have HR0 : Hid (RdPos w4 rb s 2) := hr4
  have HB0 := Lib.hid (HB3.trans (hc4.below HB3.size (fun j hj => by simp at hj; subst hj; exact HLO.out)))
  have hmn := valN_lt s 1 1
  have HPOS : Hid (endK s = posK s (valN s 1 1)) := rfl
  have HRAW : Hid (rawD s = ofE L (entsK s (valN s 1 1))) := by show _ = _; unfold rawD; rw [HMK.out, HLL.out]
  generalize hmany : valN s 1 1 = many at *
  have HMA : Hid (many ≤ 255) := by show _ ≤ _; omega
  clear hr4 hb4 hc4 HM3 HR3 HB3 hmany hmn
  go_wp2_with fail
  go_loopw [17] (fun i wr => ∃ (k : Nat) (kv vv : Value), k ≤ many ∧ i = .int .i64 k ∧ Hid (MNode 51 wr bm w.heap.size bm L kv vv ((entsK s k).map (·.1)) ((entsK s k).map (·.2))) ∧ Hid (RdPos wr rb s (posK s k)) ∧ Hid (Below w.heap.size w wr)) (fun i _ => many - (intOf i).toNat)
  case atStart => exact ⟨0, _, _, Nat.zero_le _, rfl, HM0, HR0, HB0⟩
  case round =>
    clear HM0 HR0 HB0
    obtain ⟨k, kv, vv, hk, rfl, HM, HR, HB⟩ := hrel
    by_cases hlt : k < many
    · have hel : (entsK s k).length ≤ 255 := by rw [entsK_len]; have := HMA.out; omega
      have HEL := Lib.hid hel
      have HEN : Hid ((entsK s (k + 1)).map (·.1) = (entsK s k).map (·.1) ++ [valB s (posK s k + 2) (valN s (posK s k) 2)] ∧ (entsK s (k + 1)).map (·.2) = (entsK s k).map (·.2) ++ [valB s (posK s k + 2 + valN s (posK s k) 2 + 1) (valN s (posK s k + 2 + valN s (posK s k) 2) 1)]) := by
        constructor
        · rw [entsK, List.map_append]; rfl
        · rw [entsK, List.map_append]; rfl
      have HPN : Hid (posK s (k + 1) = posK s k + 2 + valN s (posK s k) 2 + 1 + valN s (posK s k + 2 + valN s (posK s k) 2) 1) := rfl
      clear hel
      generalize hek : (entsK s k).map (·.1) = ks at *
      generalize hev : (entsK s k).map (·.2) = vs at *
      have HKL : Hid (ks.length ≤ 255 ∧ vs.length ≤ 255) := by rw [← hek, ← hev, List.length_map, List.length_map]; exact ⟨HEL.out, HEL.out⟩
      clear hek hev HEL
      generalize posK s k = p at *
      have c1 := HM.out.box.cell 1 _ rfl
      go_wp2_with fail
      refine wp_region_tree (fun W => W.cell? ⟨bm, 1, none⟩ = some kv) 5 (.quiet 0 (.quiet 1 (.quiet 2 (.make 3 (.make 4 .nil))))) (by kernel_rfl) (by kernel_rfl) c1 ?_
      simp only [List.drop_succ_cons, List.drop_zero]
      iterate 3 (apply wpTr_step rfl; (intro W hS K hK; go_simp; exact hK _ rfl))
      refine wpTr_make rfl (fun K' hK => ?_)
      go_simp
      refine (text_pos rb s p 2 (by omega) (by omega) wr.drew (rdpos_of HR.out rfl)).mono ?_
      rintro e w5 ⟨rfl, hr5, hb5⟩
      have ho : Chg [rb] wr w5 := (Chg.refl [rb] wr).drew.trans (Chg.only hb5)
      have HM5 := Lib.hid (HM.out.chg ho HNE.out.1 HNE.out.2.1 HNE.out.2.2)
      have HR5 := Lib.hid hr5
      have HB5 := Lib.hid (HB.out.trans (ho.below HB.out.size (fun j hj => by simp at hj; subst hj; exact HLO.out)))
      have c1 := HM5.out.box.cell 1 _ rfl
      have c1a : ∀ o, (w5.alloc o).cell? ⟨bm, 1, none⟩ = some kv := fun o => (HM5.out.box.alloc o).cell 1 _ rfl
      refine hK _ _ _ (fun _ h => h) c1 ?_
      clear hK K' hr5 hb5 ho HM HR HB
      generalize hx : valB s (p + 2) (valN s p 2) = xA at *
      have HXA := Lib.hid hx
      clear hx
      refine wpTr_make rfl (fun K' hK => ?_)
      go_simp
      have HA : Hid (Below w5.heap.size w5 (w5.alloc (.cells #[.string xA] 9 (0, 0)))) := (Below.refl _ _).alloc (Nat.le_refl _) _
      have HMa := Lib.hid (HM5.out.keep HA.out)
      have HRa := Lib.hid (rdpos_of HR5.out (HA.out.block rb (rdpos_lt HR5.out)))
      have HBa := Lib.hid (HB5.out.trans (HA.out.mono HB5.out.size))
      have HBX : Hid (Box (w5.alloc (.cells #[.string xA] 9 (0, 0))) w5.heap.size 9 #[.string xA]) := Box.new _ _ _
      refine hK _ _ _ (fun _ h => h) (c1a _) ?_
      clear hK K' c1 c1a HM5 HR5 HB5
      refine wpTr_nil ?_
      generalize hwa : World.alloc w5 _ = wa at *
      have hza : wa.heap.size = w5.heap.size + 1 := by rw [← hwa, size_alloc]
      have HZA := Lib.hid hza
      clear hwa hza HA
      go_wp2_with (at_builtin; refine wp_keys_push _ rfl _ _ rfl bm kv ks rfl HMa.out.kr ⟨w5.heap.size, 0, none⟩ 1 1 [xA] rfl rfl (by intro j u hj; cases j with | zero => simp at hj; subst hj; exact HBX.out.cell 0 _ rfl | succ j => simp at hj) (by have := HKL.out; omega) (by have := HMa.out.box.lt; omega) ?_)
      intro kv2 w6 hk6 hg6 ho6
      obtain ⟨aA, cA, rfl, _⟩ := ks_form2 hk6
      have hS : Chg kv.ownBlock.toList wa w6 := Chg.grown hg6 (fun j hj => by simp [hj])
      have hSo : ∀ j ∈ kv.ownBlock.toList, kv.ownBlock = some j := fun j hj => by simpa using hj
      have HX6 := Lib.hid (HMa.out.boxK _ hS hSo)
      have HMA := Lib.hid (HMa.out.newK hk6 _ hS hSo (fun j hj => by rcases ho6 with h | h; exact .inl (h ▸ hj); rw [h] at hj; injection hj with hj; exact .inr (by omega)))
      have HRA := Lib.hid (rdpos_of (w' := w6.setCell ⟨bm, 1, none⟩ (.slice aA (ks ++ [xA]).length cA)) HRa.out (((Chg.only (Only.set bm 1 w6 (.slice aA (ks ++ [xA]).length cA))).block rb (Nat.lt_of_lt_of_le (rdpos_lt HRa.out) hS.size) (by simpa using HNE.out.2.1)).trans (hS.block rb (rdpos_lt HRa.out) (fun hm => by have := HMa.out.kr.own_block rb (hSo rb hm); have := HNE.out.2.2; omega))))
      have HBA := Lib.hid ((HBa.out.trans (HMa.out.belowK _ hS hSo (Nat.le_refl _))).setCell (p := ⟨bm, 1, none⟩) (by have := HLM.out; show w.heap.size ≤ bm; omega) (.slice aA (ks ++ [xA]).length cA))
      clear hk6 hg6 ho6 hS hSo HMa HRa HBa HBX
      generalize hksx : ks ++ [xA] = ksA at *
      have HKXA := Lib.hid hksx
      clear hksx
      have x1 := HX6.out.cell 1 _ rfl
      have y1 := HX6.out.free 1
      obtain ⟨w7, hw7⟩ : ∃ w7, w7 = w6.setCell ⟨bm, 1, none⟩ (.slice aA ksA.length cA) := ⟨_, rfl⟩
      rw [← hw7] at HMA HRA HBA
      have hw8 := hw7.symm
      clear hw7
      have c2 := HMA.out.box.cell 2 _ rfl
      go_wp2_with fail
      try rw [hw8]
      clear hw8 x1 y1 HX6 c2
      obtain ⟨p2, hp2⟩ : ∃ p2, p2 = p + 2 + valN s p 2 := ⟨_, rfl⟩
      rw [← hp2] at HRA HEN HPN
      have HP2 := Lib.hid hp2
      clear hp2
      have c1 := HMA.out.box.cell 2 _ rfl
      refine wp_region_tree (fun W => W.cell? ⟨bm, 2, none⟩ = some vv) 5 (.quiet 0 (.quiet 1 (.quiet 2 (.make 3 (.make 4 .nil))))) (by kernel_rfl) (by kernel_rfl) c1 ?_
      simp only [List.drop_succ_cons, List.drop_zero]
      iterate 3 (apply wpTr_step rfl; (intro W hS K hK; go_simp; exact hK _ rfl))
      refine wpTr_make rfl (fun K' hK => ?_)
      go_simp
      refine (text_pos rb s p2 1 (by omega) (by omega) w7.drew (rdpos_of HRA.out rfl)).mono ?_
      rintro e w5 ⟨rfl, hr5, hb5⟩
      have ho : Chg [rb] w7 w5 := (Chg.refl [rb] w7).drew.trans (Chg.only hb5)
      have HM5 := Lib.hid (HMA.out.chg ho HNE.out.1 HNE.out.2.1 HNE.out.2.2)
      have HR5 := Lib.hid hr5
      have HB5 := Lib.hid (HBA.out.trans (ho.below HBA.out.size (fun j hj => by simp at hj; subst hj; exact HLO.out)))
      have c1 := HM5.out.box.cell 2 _ rfl
      have c1a : ∀ o, (w5.alloc o).cell? ⟨bm, 2, none⟩ = some vv := fun o => (HM5.out.box.alloc o).cell 2 _ rfl
      refine hK _ _ _ (fun _ h => h) c1 ?_
      clear hK K' hr5 hb5 ho HMA HRA HBA
      generalize hx : valB s (p2 + 1) (valN s p2 1) = xB at *
      have HXB := Lib.hid hx
      clear hx
      refine wpTr_make rfl (fun K' hK => ?_)
      go_simp
      have HA : Hid (Below w5.heap.size w5 (w5.alloc (.cells #[.string xB] 9 (0, 0)))) := (Below.refl _ _).alloc (Nat.le_refl _) _
      have HMa := Lib.hid (HM5.out.keep HA.out)
      have HRa := Lib.hid (rdpos_of HR5.out (HA.out.block rb (rdpos_lt HR5.out)))
      have HBa := Lib.hid (HB5.out.trans (HA.out.mono HB5.out.size))
      have HBX : Hid (Box (w5.alloc (.cells #[.string xB] 9 (0, 0))) w5.heap.size 9 #[.string xB]) := Box.new _ _ _
      refine hK _ _ _ (fun _ h => h) (c1a _) ?_
      clear hK K' c1 c1a HM5 HR5 HB5
      refine wpTr_nil ?_
      generalize hwa : World.alloc w5 _ = wa at *
      have hza : wa.heap.size = w5.heap.size + 1 := by rw [← hwa, size_alloc]
      have HZA := Lib.hid hza
      clear hwa hza HA
      go_wp2_with (at_builtin; refine wp_keys_push _ rfl _ _ rfl bm vv vs rfl HMa.out.vr ⟨w5.heap.size, 0, none⟩ 1 1 [xB] rfl rfl (by intro j u hj; cases j with | zero => simp at hj; subst hj; exact HBX.out.cell 0 _ rfl | succ j => simp at hj) (by have := HKL.out; omega) (by have := HMa.out.box.lt; omega) ?_)
      intro kv2 w6 hk6 hg6 ho6
      obtain ⟨aB, cB, rfl, _⟩ := ks_form2 hk6
      have hS : Chg vv.ownBlock.toList wa w6 := Chg.grown hg6 (fun j hj => by simp [hj])
      have hSo : ∀ j ∈ vv.ownBlock.toList, vv.ownBlock = some j := fun j hj => by simpa using hj
      have HX6 := Lib.hid (HMa.out.boxV _ hS hSo)
      have HMB := Lib.hid (HMa.out.newV hk6 _ hS hSo (fun j hj => by rcases ho6 with h | h; exact .inl (h ▸ hj); rw [h] at hj; injection hj with hj; exact .inr (by omega)))
      have HRB := Lib.hid (rdpos_of (w' := w6.setCell ⟨bm, 2, none⟩ (.slice aB (vs ++ [xB]).length cB)) HRa.out (((Chg.only (Only.set bm 2 w6 (.slice aB (vs ++ [xB]).length cB))).block rb (Nat.lt_of_lt_of_le (rdpos_lt HRa.out) hS.size) (by simpa using HNE.out.2.1)).trans (hS.block rb (rdpos_lt HRa.out) (fun hm => by have := HMa.out.vr.own_block rb (hSo rb hm); have := HNE.out.2.2; omega))))
      have HBB := Lib.hid ((HBa.out.trans (HMa.out.belowV _ hS hSo (Nat.le_refl _))).setCell (p := ⟨bm, 2, none⟩) (by have := HLM.out; show w.heap.size ≤ bm; omega) (.slice aB (vs ++ [xB]).length cB))
      clear hk6 hg6 ho6 hS hSo HMa HRa HBa HBX
      generalize hksx : vs ++ [xB] = ksB at *
      have HKXB := Lib.hid hksx
      clear hksx
      have x1 := HX6.out.cell 2 _ rfl
      have y1 := HX6.out.free 2
      have HM9 : Hid (MNode 51 (w6.setCell ⟨bm, 2, none⟩ (.slice aB ksB.length cB)) bm w.heap.size bm L (.slice aA ksA.length cA) (.slice aB ksB.length cB) ((entsK s (k + 1)).map (·.1)) ((entsK s (k + 1)).map (·.2))) := by
        rw [HEN.out.1, HEN.out.2]
        exact HMB.out
      have HR9 : Hid (RdPos (w6.setCell ⟨bm, 2, none⟩ (.slice aB ksB.length cB)) rb s (posK s (k + 1))) := by rw [HPN.out]; exact HRB.out
      clear HMB HRB
      have hmany : many ≤ 255 := HMA.out
      go_wp2
      go_roundw
      case rel =>
        have hkk : k + 1 ≤ many := hlt
        exact ⟨k + 1, _, _, hkk, by go_num, HM9, HR9, HBB⟩
      case measure => simp [intOf]; omega
    · have hkm : k = many := by omega
      subst hkm
      have hpe : posEnd s (posK s k) = if posK s k < s.size then 3 else if posK s k = s.size then 0 else 2 := rfl
      have HZZ : Hid (∀ t ∈ (ofE L (entsK s k)).keys ++ (ofE L (entsK s k)).vals, t.size ≤ maxLen) := fun t ht => by
        have := ents_size s L k t ht; unfold maxLen; omega
      go_wp2_with fail
      refine (end_pos rb s (posK s k) _ HR.out).mono ?_
      rintro e w4 ⟨rfl, rfl⟩
      rcases Nat.lt_trichotomy (posK s k) s.size with hlt2 | heq | hgt
      · have HQ : Hid (decP s = (nilD, 3)) := by show _ = _; unfold decP; rw [HPOS.out, if_neg (by omega), if_pos (.inl hlt2)]
        have HP3 : Hid (posEnd s (posK s k) = 3) := by show _ = _; rw [hpe, if_pos hlt2]
        rw [HP3.out]
        clear hpe hlt2
        have r0 := HM.out.res.cell 0 _ rfl
        have r1 := HM.out.res.cell 1 _ rfl
        have r2 := HM.out.res.cell 2 _ rfl
        have f0 := HM.out.res.free 0
        have f1 := HM.out.res.free 1
        have f2 := HM.out.res.free 2
        have HBE := Lib.hid (HB.out.trans ((chg_set3 wr w.heap.size (.bool false) (.slice none 0 0) (.slice none 0 0)).below HB.out.size (fun j hj => by simp at hj; omega)))
        have HRE := Lib.hid (box_set3 HM.out.res (.bool false) (.slice none 0 0) (.slice none 0 0))
        go_wp2
        refine bodyPost_ret (results_cell2 rfl _ _ w.heap.size 51 _ (0, 0) _ rfl HRE.out Try.underlying51 rfl sizeNode) rfl ?_
        rw [HPS.out, HQ.out]
        exact ⟨_, rfl, NodeOwn.nil _ _, sep_nil, HBE.out⟩
      · have HP3 : Hid (posEnd s (posK s k) = 0) := by show _ = _; rw [hpe, if_neg (by omega), if_pos heq]
        rw [HP3.out]
        clear hpe
        obtain ⟨ak, ck, rfl, hsk⟩ := ks_form2 HM.out.kr
        obtain ⟨av, cv, rfl, hsv⟩ := ks_form2 HM.out.vr
        simp only [List.length_map] at HM
        have e1 := HE1.out
        have e2 := HE2.out
        cases hLv : L
        · cases hIv : I
          · have HQ : Hid (decP s = (nilD, 3)) := by
              show _ = _
              unfold decP
              rw [HPOS.out, if_neg (by omega), HMK.out, if_pos (.inr (.inl ⟨of_decide_eq_false (HLL.out.symm.trans hLv), of_decide_eq_false (HII.out.symm.trans hIv)⟩))]
            rw [hLv] at e1
            rw [hIv] at e2
            clear hsk hsv
            have r0 := HM.out.res.cell 0 _ rfl
            have r1 := HM.out.res.cell 1 _ rfl
            have r2 := HM.out.res.cell 2 _ rfl
            have f0 := HM.out.res.free 0
            have f1 := HM.out.res.free 1
            have f2 := HM.out.res.free 2
            have HBE := Lib.hid (HB.out.trans ((chg_set3 wr w.heap.size (.bool false) (.slice none 0 0) (.slice none 0 0)).below HB.out.size (fun j hj => by simp at hj; omega)))
            have HRE := Lib.hid (box_set3 HM.out.res (.bool false) (.slice none 0 0) (.slice none 0 0))
            go_wp2
            refine bodyPost_ret (results_cell2 rfl _ _ w.heap.size 51 _ (0, 0) _ rfl HRE.out Try.underlying51 rfl sizeNode) rfl ?_
            rw [HPS.out, HQ.out]
            exact ⟨_, rfl, NodeOwn.nil _ _, sep_nil, HBE.out⟩
          · have hnn : ¬ (mk ≠ ⟨#[76]⟩ ∧ mk ≠ ⟨#[73]⟩) := fun h => h.2 (of_decide_eq_true (HII.out.symm.trans hIv))
            rw [hLv] at e1
            rw [hIv] at e2
            subst hLv
            have HV : Hid (Value.agg #[.bool false, .slice ak (entsK s k).length ck, .slice av (entsK s k).length cv] = nodeV ak ck av cv (ofE false (entsK s k))) := by show _ = _; unfold nodeV ofE; simp only [List.length_map]
            have HIN : Hid (NodeIn wr ak av (ofE false (entsK s k))) := ⟨hsk, hsv, by show ((entsK s k).map _).length ≤ _; rw [List.length_map, entsK_len]; have := HMA.out; omega, by show ((entsK s k).map _).length ≤ _; rw [List.length_map, entsK_len]; have := HMA.out; omega⟩
            have m0 := HM.out.box.cell 0 _ rfl
            have m1 := HM.out.box.cell 1 _ rfl
            have m2 := HM.out.box.cell 2 _ rfl
            clear hsk hsv
            go_wp2_with fail
            rw [HV.out]
            refine (check_any ak ck av cv (ofE false (entsK s k)) _ HIN.out HZZ.out).mono ?_
            rintro e w5 ⟨rfl, hb5⟩
            have HM5 := Lib.hid (HM.out.keep hb5)
            have HB5 := Lib.hid (HB.out.trans (hb5.mono HB.out.size))
            clear hb5 m0 m1 m2
            rw [← HRAW.out]
            by_cases hck : chkN (rawD s) = 0
            · have HQ : Hid (decP s = (rawD s, 0)) := by
                show _ = _
                unfold decP
                rw [HPOS.out, if_neg (by omega), if_neg]
                rintro (h | h | h)
                · omega
                · rw [HMK.out] at h; exact hnn h
                · exact h hck
              rw [hck]
              clear hck hnn
              have m0 := HM5.out.box.cell 0 _ rfl
              have m1 := HM5.out.box.cell 1 _ rfl
              have m2 := HM5.out.box.cell 2 _ rfl
              have r0 := HM5.out.res.cell 0 _ rfl
              have r1 := HM5.out.res.cell 1 _ rfl
              have r2 := HM5.out.res.cell 2 _ rfl
              have f0 := HM5.out.res.free 0
              have f1 := HM5.out.res.free 1
              have f2 := HM5.out.res.free 2
              have HE := Lib.hid (HM5.out.end w.heap.size (Nat.le_refl _))
              have HSE := Lib.hid HM5.out.sep
              have HBE := Lib.hid (HB5.out.trans ((chg_set3 w5 w.heap.size (.bool false) (.slice ak (entsK s k).length ck) (.slice av (entsK s k).length cv)).below HB5.out.size (fun j hj => by simp at hj; omega)))
              go_wp2
              refine bodyPost_ret (results_cell2 rfl _ _ w.heap.size 51 _ (0, 0) _ rfl HE.out.1 Try.underlying51 rfl sizeNode) rfl ?_
              rw [HPS.out, HQ.out, HRAW.out]
              exact ⟨_, rfl, HE.out.2, HSE.out, HBE.out⟩
            · have HQ : Hid (decP s = (nilD, 3)) := by
                show _ = _
                unfold decP
                rw [HPOS.out, if_neg (by omega), if_pos (.inr (.inr hck))]
              have hck2 : (chkN (rawD s) == 0) = false := by rw [beq_eq_false_iff_ne]; exact hck
              generalize chkN (rawD s) = cc at *
              clear hck hnn
              have r0 := HM5.out.res.cell 0 _ rfl
              have r1 := HM5.out.res.cell 1 _ rfl
              have r2 := HM5.out.res.cell 2 _ rfl
              have f0 := HM5.out.res.free 0
              have f1 := HM5.out.res.free 1
              have f2 := HM5.out.res.free 2
              have HBE := Lib.hid (HB5.out.trans ((chg_set3 w5 w.heap.size (.bool false) (.slice none 0 0) (.slice none 0 0)).below HB5.out.size (fun j hj => by simp at hj; omega)))
              have HRE := Lib.hid (box_set3 HM5.out.res (.bool false) (.slice none 0 0) (.slice none 0 0))
              go_wp2
              refine bodyPost_ret (results_cell2 rfl _ _ w.heap.size 51 _ (0, 0) _ rfl HRE.out Try.underlying51 rfl sizeNode) rfl ?_
              rw [HPS.out, HQ.out]
              exact ⟨_, rfl, NodeOwn.nil _ _, sep_nil, HBE.out⟩

        · have hnn : ¬ (mk ≠ ⟨#[76]⟩ ∧ mk ≠ ⟨#[73]⟩) := fun h => h.1 (of_decide_eq_true (HLL.out.symm.trans hLv))
          rw [hLv] at e1
          subst hLv
          have HV : Hid (Value.agg #[.bool true, .slice ak (entsK s k).length ck, .slice av (entsK s k).length cv] = nodeV ak ck av cv (ofE true (entsK s k))) := by show _ = _; unfold nodeV ofE; simp only [List.length_map]
          have HIN : Hid (NodeIn wr ak av (ofE true (entsK s k))) := ⟨hsk, hsv, by show ((entsK s k).map _).length ≤ _; rw [List.length_map, entsK_len]; have := HMA.out; omega, by show ((entsK s k).map _).length ≤ _; rw [List.length_map, entsK_len]; have := HMA.out; omega⟩
          have m0 := HM.out.box.cell 0 _ rfl
          have m1 := HM.out.box.cell 1 _ rfl
          have m2 := HM.out.box.cell 2 _ rfl
          clear hsk hsv
          go_wp2_with fail
          rw [HV.out]
          refine (check_any ak ck av cv (ofE true (entsK s k)) _ HIN.out HZZ.out).mono ?_
          rintro e w5 ⟨rfl, hb5⟩
          have HM5 := Lib.hid (HM.out.keep hb5)
          have HB5 := Lib.hid (HB.out.trans (hb5.mono HB.out.size))
          clear hb5 m0 m1 m2
          rw [← HRAW.out]
          by_cases hck : chkN (rawD s) = 0
          · have HQ : Hid (decP s = (rawD s, 0)) := by
              show _ = _
              unfold decP
              rw [HPOS.out, if_neg (by omega), if_neg]
              rintro (h | h | h)
              · omega
              · rw [HMK.out] at h; exact hnn h
              · exact h hck
            rw [hck]
            clear hck hnn
            have m0 := HM5.out.box.cell 0 _ rfl
            have m1 := HM5.out.box.cell 1 _ rfl
            have m2 := HM5.out.box.cell 2 _ rfl
            have r0 := HM5.out.res.cell 0 _ rfl
            have r1 := HM5.out.res.cell 1 _ rfl
            have r2 := HM5.out.res.cell 2 _ rfl
            have f0 := HM5.out.res.free 0
            have f1 := HM5.out.res.free 1
            have f2 := HM5.out.res.free 2
            have HE := Lib.hid (HM5.out.end w.heap.size (Nat.le_refl _))
            have HSE := Lib.hid HM5.out.sep
            have HBE := Lib.hid (HB5.out.trans ((chg_set3 w5 w.heap.size (.bool true) (.slice ak (entsK s k).length ck) (.slice av (entsK s k).length cv)).below HB5.out.size (fun j hj => by simp at hj; omega)))
            go_wp2
            refine bodyPost_ret (results_cell2 rfl _ _ w.heap.size 51 _ (0, 0) _ rfl HE.out.1 Try.underlying51 rfl sizeNode) rfl ?_
            rw [HPS.out, HQ.out, HRAW.out]
            exact ⟨_, rfl, HE.out.2, HSE.out, HBE.out⟩
          · have HQ : Hid (decP s = (nilD, 3)) := by
              show _ = _
              unfold decP
              rw [HPOS.out, if_neg (by omega), if_pos (.inr (.inr hck))]
            have hck2 : (chkN (rawD s) == 0) = false := by rw [beq_eq_false_iff_ne]; exact hck
            generalize chkN (rawD s) = cc at *
            clear hck hnn
            have r0 := HM5.out.res.cell 0 _ rfl
            have r1 := HM5.out.res.cell 1 _ rfl
            have r2 := HM5.out.res.cell 2 _ rfl
            have f0 := HM5.out.res.free 0
            have f1 := HM5.out.res.free 1
            have f2 := HM5.out.res.free 2
            have HBE := Lib.hid (HB5.out.trans ((chg_set3 w5 w.heap.size (.bool false) (.slice none 0 0) (.slice none 0 0)).below HB5.out.size (fun j hj => by simp at hj; omega)))
            have HRE := Lib.hid (box_set3 HM5.out.res (.bool false) (.slice none 0 0) (.slice none 0 0))
            go_wp2
            refine bodyPost_ret (results_cell2 rfl _ _ w.heap.size 51 _ (0, 0) _ rfl HRE.out Try.underlying51 rfl sizeNode) rfl ?_
            rw [HPS.out, HQ.out]
            exact ⟨_, rfl, NodeOwn.nil _ _, sep_nil, HBE.out⟩

      · have HQ : Hid (decP s = (nilD, 2)) := by show _ = _; unfold decP; rw [HPOS.out, if_pos hgt]
        have HP3 : Hid (posEnd s (posK s k) = 2) := by show _ = _; rw [hpe, if_neg (by omega), if_neg (by omega)]
        rw [HP3.out]
        clear hpe hgt
        have r0 := HM.out.res.cell 0 _ rfl
        have r1 := HM.out.res.cell 1 _ rfl
        have r2 := HM.out.res.cell 2 _ rfl
        have f0 := HM.out.res.free 0
        have f1 := HM.out.res.free 1
        have f2 := HM.out.res.free 2
        have HBE := Lib.hid (HB.out.trans ((chg_set3 wr w.heap.size (.bool false) (.slice none 0 0) (.slice none 0 0)).below HB.out.size (fun j hj => by simp at hj; omega)))
        have HRE := Lib.hid (box_set3 HM.out.res (.bool false) (.slice none 0 0) (.slice none 0 0))
        go_wp2
        refine bodyPost_ret (results_cell2 rfl _ _ w.heap.size 51 _ (0, 0) _ rfl HRE.out Try.underlying51 rfl sizeNode) rfl ?_
        rw [HPS.out, HQ.out]
        exact ⟨_, rfl, NodeOwn.nil _ _, sep_nil, HBE.out⟩

theorem decode_any (s : ByteArray) (w : World) (hs : s.size ≤ 100000) : Calls Try.prog 22 #[.string s] w (DecTo (decP s) w) :=
  (decode_sep s w hs).mono fun _ _ ⟨v, h1, h2, _, h4⟩ => ⟨v, h1, h2, h4⟩
end Go.Proofs.Ytbeldjijnjgbfaa
