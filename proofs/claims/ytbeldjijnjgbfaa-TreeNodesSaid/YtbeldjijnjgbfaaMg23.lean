/-
  Texts put together: TcC, TcD, TcE.
-/
import Derived.Test.YtbeldjijnjgbfaaMg22
import Derived.Defers
import Derived.Recover
import Derived.Laws.Pointers
namespace Go.Proofs.Ytbeldjijnjgbfaa
open Go Go.RowKit Go.ChangeShapes Go.WideShapes Go.ChangeAt

theorem KpAt.free {w : World} {kb : Nat} {v : Value} {S : StD} (h : KpAt w kb v S) : w.frozen? ⟨kb, 0, none⟩ = false := h.box.free 0
theorem KpAt.drewN {w : World} {kb : Nat} {v : Value} {S : StD} (h : KpAt w kb v S) (n : Nat) : KpAt (w.drewN n) kb v S := ⟨h.ok, h.box, h.row, h.ne⟩
theorem puts_full {S : StD} {t : ByteArray} (h : S.room ≤ S.l.length) : putS S t = ((noT, 6), S) := if_pos h
theorem puts_ok {S : StD} {t : ByteArray} (h : ¬ S.room ≤ S.l.length) : putS S t = ((dig6 S.l.length, 0), { S with l := S.l ++ [t] }) := if_neg h
set_option maxRecDepth 100000 in
set_option maxHeartbeats 2000000 in
theorem kput_any (kb : Nat) (F : List Nat) (S : StD) (t : ByteArray) (w : World) (h : KpF kb S F w) (ht : t.size ≤ 100000) :
    Calls Try.prog 97 #[.pointer (some ⟨kb, 0, none⟩), .string t] w fun e w' => e = .returned (.tuple #[.string (putS S t).1.1, .int .i64 (putS S t).1.2]) ∧ Tod (KpF kb (putS S t).2) F w w' := by
  have HF := Lib.hid h
  obtain ⟨v, hk, hFe⟩ := h
  obtain ⟨a, c, rfl, hs⟩ := hk.row.view
  have HK := Lib.hid hk
  have hl := hk.ok.len
  have c0 := hk.box.cell 0 _ rfl
  have c1 := hk.box.cell 1 _ rfl
  have HFE := Lib.hid hFe
  have HT := Lib.hid ht
  clear hk hs hFe ht
  go_enter Try.func97, Try.ntmps97
  by_cases hr : S.room ≤ (S.l.length : Int)
  · have HQ := Lib.hid (puts_full (t := t) hr)
    go_wp2_with fail
    go_quiet (fail)
    go_wp2
    go_ret2
    refine ⟨by rw [HQ.out]; rfl, ?_⟩
    rw [HQ.out]
    exact Tod.same (fixed_kp kb S) HF.out ⟨rfl, rfl, rfl, Nat.le_refl _, fun _ _ => rfl⟩
  · have HQ := Lib.hid (puts_ok (t := t) hr)
    go_wp2_with fail
    go_quiet (fail)
    have HK1 := Lib.hid (HK.out.drewN nq)
    obtain ⟨wx, hwx⟩ : ∃ wx, wx = (w.drewN nq).alloc (.cells #[.string t] 9 (0, 0)) := ⟨_, rfl⟩
    have HZX : Hid (wx.heap.size = w.heap.size + 1) := by show _ = _; rw [hwx, size_alloc]; rfl
    have HX : Hid (Box wx w.heap.size 9 #[.string t]) := by rw [hwx]; exact Box.new (w.drewN nq) _ _
    have HC : Hid (Chg F w wx) := by rw [hwx]; exact ((Chg.refl F w).drewN nq).alloc _
    have HKX : Hid (KpAt wx kb (.slice a S.l.length c) S) := by rw [hwx]; exact HK1.out.keep ((Below.refl _ _).alloc (Nat.le_refl _) _)
    go_wp2_with (at_builtin; refine wp_keys_push _ rfl _ _ rfl 0 _ S.l rfl (by rw [← hwx]; exact HKX.out.row) ⟨w.heap.size, 0, none⟩ 1 1 [t] rfl rfl ?c1 (by omega) (Nat.zero_le _) ?_)
    case c1 =>
      intro j u hj
      match j, hj with
      | 0, hj => (simp at hj; subst hj; rw [← hwx]; exact HX.out.cell 0 _ rfl)
      | (j + 1), hj => (simp at hj)
    intro v' w2 hk2 hg2 ho2
    rw [← hwx] at hg2
    have hkbl := HK.out.box.lt
    obtain ⟨a2, c2, rfl, _⟩ := ks_form2 hk2
    have hbl : (Value.slice a S.l.length c).ownBlock ≠ some kb := HKX.out.ne
    have HB2 : Hid (Box w2 kb 28 #[.slice a S.l.length c, .int .i64 S.room]) := HKX.out.box.of (hg2.block kb HKX.out.box.lt (fun e => hbl e.symm))
    have HN2 : Hid ((Value.slice a2 (S.l ++ [t]).length c2).ownBlock ≠ some kb) := by
      intro he
      rcases ho2 with h | h
      · exact hbl (h ▸ he)
      · rw [he] at h; injection h with h; omega
    have HC2 : Hid (Chg F w w2) := HC.out.trans (Chg.grown hg2 (fun k hk => by rw [HFE.out, hk]; simp))
    have HO2 : Hid (∀ k ∈ (Value.slice a2 (S.l ++ [t]).length c2).ownBlock.toList, k ∈ F ∨ w.heap.size ≤ k) := by
      intro k hk
      rcases ho2 with h | h
      · rw [h] at hk; exact .inl (by rw [HFE.out]; exact List.mem_cons_of_mem _ hk)
      · rw [h] at hk
        simp at hk
        have := HZX.out
        exact .inr (by omega)
    have HK2 := Lib.hid hk2
    have g0 := HB2.out.free 0
    have g1 : w2.cell? ⟨kb, 0, none⟩ = some (.slice a S.l.length c) := HB2.out.cell 0 _ rfl
    have HE : Hid (KpAt (w2.setCell ⟨kb, 0, none⟩ (.slice a2 (S.l ++ [t]).length c2)) kb (.slice a2 (S.l ++ [t]).length c2) { S with l := S.l ++ [t] }) := by
      refine ⟨⟨HK.out.ok.r0, HK.out.ok.r1, ?_, ?_⟩, HB2.out.set 0 _, hk2.chg (S := [kb]) ((Chg.refl _ _).set kb 0 _ (.inl (by simp))) (fun k hk hm => ?_), HN2.out⟩
      · have := HK.out.ok.r1
        show (S.l ++ [t]).length ≤ _
        rw [List.length_append]; simp; omega
      · intro x hx
        rcases List.mem_append.1 hx with h | h
        · exact HK.out.ok.txt x h
        · rw [List.mem_singleton.1 h]; exact HT.out
      · rw [List.mem_singleton.1 hm] at hk; exact HN2.out hk
    have HCE : Hid (Chg F w (w2.setCell ⟨kb, 0, none⟩ (.slice a2 (S.l ++ [t]).length c2))) := HC2.out.set kb 0 _ (.inl (by rw [HFE.out]; simp))
    have hle : (S.l ++ [t]).length = S.l.length + 1 := by simp
    rw [hle] at HE HO2 HCE hk2 HN2
    have e0 : (w2.setCell ⟨kb, 0, none⟩ (.slice a2 (S.l.length + 1) c2)).cell? ⟨kb, 0, none⟩ = some (.slice a2 (S.l.length + 1) c2) := HE.out.box.cell 0 _ rfl
    have hfl : F = kb :: (Value.slice a S.l.length c).ownBlock.toList := HFE.out
    have HFIN : Hid (Tod (KpF kb { S with l := S.l ++ [t] }) F w (w2.setCell ⟨kb, 0, none⟩ (.slice a2 (S.l.length + 1) c2))) := ⟨_, ⟨_, HE.out, rfl⟩, HCE.out, fun k hk => by
      rcases List.mem_cons.1 hk with rfl | hk
      · exact .inl (by rw [hfl]; simp)
      · exact HO2.out k hk⟩
    rw [hle]
    clear hg2 ho2 hk2 hbl HB2 HN2 HC2 HO2 HCE HC HX HKX hwx hfl HK HK1 HZX
    go_wp2_with fail
    refine (kdigits_any S.l.length (by omega) _).mono ?_
    rintro e w3 ⟨rfl, hb3⟩
    have HFI2 := Lib.hid (HFIN.out.trans (fun F1 h1 => Tod.same (fixed_kp kb _) h1 hb3))
    clear hb3
    go_wp2
    go_ret2
    refine ⟨by rw [HQ.out]; rfl, ?_⟩
    rw [HQ.out]
    exact HFI2.out
end Go.Proofs.Ytbeldjijnjgbfaa

namespace Go.Proofs.Ytbeldjijnjgbfaa
open Go Go.RowKit Go.ChangeShapes Go.WideShapes Go.ChangeAt

theorem gidle (p q : Addr) (w : World) :
    CallsD Try.prog 66 #[.pointer (some p), .pointer (some q)] .returning w fun e u' w' => e = .returned (.tuple #[]) ∧ u' = .returning ∧ w' = w := by
  refine callsD_of_wpS Try.func66 rfl fun c₀ cs hu => ?_
  apply wpS_seq
  apply wpS_region
  simp [wpOpsS, go_sem, recoverD, hu, Try.ntmps66, Exit.thenS]
  refine wpS_cond (t := false) (by simp [Act.eval, Array.replicate]) ?_
  simp only [Bool.false_eq_true, if_false]
  refine wpS_of_wp (wp_skip ?_)
  cases c₀
  simp_all [bodyPostS, results, Try.results66]
theorem pidle (p q : Addr) (w : World) :
    CallsD Try.prog 78 #[.pointer (some p), .pointer (some q)] .returning w fun e u' w' => e = .returned (.tuple #[]) ∧ u' = .returning ∧ w' = w := by
  refine callsD_of_wpS Try.func78 rfl fun c₀ cs hu => ?_
  apply wpS_seq
  apply wpS_region
  simp [wpOpsS, go_sem, recoverD, hu, Try.ntmps78, Exit.thenS]
  refine wpS_cond (t := false) (by simp [Act.eval, Array.replicate]) ?_
  simp only [Bool.false_eq_true, if_false]
  refine wpS_of_wp (wp_skip ?_)
  cases c₀
  simp_all [bodyPostS, results, Try.results78]
theorem inv_kget (b : Nat) (w : World) : (method 255 25 (.pointer (some ⟨b, 0, none⟩)) "Get").run Try.prog w = .ok (21, .pointer (some ⟨b, 0, none⟩)) w := by kernel_rfl
theorem inv_kput (b : Nat) (w : World) : (method 255 25 (.pointer (some ⟨b, 0, none⟩)) "Put").run Try.prog w = .ok (97, .pointer (some ⟨b, 0, none⟩)) w := by kernel_rfl
theorem Tod.aside {Q : List Nat → World → Prop} {F S : List Nat} {w w1 w2 w3 : World} (h : Tod Q F w1 w2) (hQ : Fixed Q) (hw : Below w.heap.size w w1) (hl : ∀ k ∈ F, k < w.heap.size) (hc : Chg S w2 w3) (hS : ∀ k ∈ S, w.heap.size ≤ k ∧ k < w1.heap.size) : Tod Q F w w3 := by
  obtain ⟨F', h1, h2, h3⟩ := h
  have hs := hw.size
  have ha : Chg F w w2 := (Chg.of hw (Nat.le_refl _)).trans h2
  refine ⟨F', hQ.keep _ _ _ _ h1 hc (fun k hk hm => ?_), ha.then hc (fun i hi => .inr (hS i hi).1), fun k hk => ?_⟩
  · have := hS k hm
    rcases h3 k hk with h | h
    · have := hl k h; omega
    · omega
  · rcases h3 k hk with h | h
    · exact .inl h
    · exact .inr (by omega)
theorem results_c2 {P : Program} {fn : Func} {p q : Tmp} {t1 t2 : TypeId} (h : fn.results = #[.cell p t1, .cell q t2]) (tmps : Array Value) (w : World) (a1 a2 : Addr) (v1 v2 : Value)
    (hp : tmps.getD p undef = .pointer (some a1)) (hq : tmps.getD q undef = .pointer (some a2)) (g1 : (isAgg t1).run P w = .ok false w) (g2 : (isAgg t2).run P w = .ok false w)
    (h1 : w.cell? a1 = some v1) (h2 : w.cell? a2 = some v2) : (results fn tmps).run P w = .ok (.tuple #[v1, v2]) w := by
  have hp' : tmps[p]?.getD undef = .pointer (some a1) := by simpa using hp
  have hq' : tmps[q]?.getD undef = .pointer (some a2) := by simpa using hq
  simp [results, h, hp', hq', asAddr, loadVar, Sem.run_bind, g1, g2, h1, h2, go_sem]
theorem two_set {w : World} {p q : Nat} {s t : TypeId} {x y : Value} (h0 : Box w p s #[x]) (h1 : Box w q t #[y]) (hne : p ≠ q) (x' y' : Value) :
    Box ((w.setCell ⟨p, 0, none⟩ x').setCell ⟨q, 0, none⟩ y') p s #[x'] ∧ Box ((w.setCell ⟨p, 0, none⟩ x').setCell ⟨q, 0, none⟩ y') q t #[y'] ∧ Chg [p, q] w ((w.setCell ⟨p, 0, none⟩ x').setCell ⟨q, 0, none⟩ y') := by
  have a0 := h0.set 0 x'
  have a1 := (Only.set p 0 w x').box (fun e => hne e.symm) h1
  refine ⟨(Only.set q 0 _ y').box hne a0, a1.set 0 y', ((Chg.refl _ w).set p 0 x' (.inl (by simp))).set q 0 y' (.inl (by simp))⟩
abbrev kpV (kb : Nat) : Value := .iface 25 (.pointer (some ⟨kb, 0, none⟩))
set_option maxRecDepth 100000 in
set_option maxHeartbeats 2000000 in
theorem askget_any (kb : Nat) (F : List Nat) (S : StD) (ref : ByteArray) (w : World) (h : KpF kb S F w) (hr : ref.size ≤ maxLen) :
    Calls Try.prog 57 #[kpV kb, .string ref] w fun e w' => e = .returned (.tuple #[.string (getS S ref).1, .int .i64 (getS S ref).2]) ∧ Below w.heap.size w w' := by
  have HF := Lib.hid h
  have HR := Lib.hid hr
  obtain ⟨g, hg⟩ : ∃ g, g = getS S ref := ⟨_, rfl⟩
  have HG := Lib.hid hg
  clear hg
  rw [← HG.out]
  clear h hr
  have hmf : ∀ (fn : Fn) (first cap : Array Value) (w : World), (Instr.makeFunc fn first cap).run Try.prog w = .ok (.func fn first cap) w := fun _ _ _ _ => rfl
  go_enter_defers Try.func57, Try.ntmps57
  have i0 := fun W => inv_kget kb W
  obtain ⟨w1, hw1⟩ : ∃ w1, w1 = (w.alloc (.cells #[.string ⟨#[]⟩] 9 (0, 0))).alloc (.cells #[.int .i64 0] 34 (0, 0)) := ⟨_, rfl⟩
  have B0 : Hid (Box w1 w.heap.size 9 #[.string ⟨#[]⟩]) := by show Box _ _ _ _; rw [hw1]; exact (Box.new w _ _).alloc _
  have B1 : Hid (Box w1 (w.heap.size + 1) 34 #[.int .i64 0]) := by show Box _ _ _ _; rw [hw1]; exact box_second _ _ _ _
  have BW : Hid (Below w.heap.size w w1) := by show Below _ _ _; rw [hw1]; exact ((Below.refl _ _).alloc (Nat.le_refl _) _).alloc (by rw [size_alloc]; omega) _
  have KW : Hid (KpF kb S F w1) := HF.out.keep BW.out
  go_wp2_with fail
  rw [← hw1]
  obtain ⟨v, hk, _⟩ := KW.out
  refine (kget_any kb v S ref _ hk HR.out).mono ?_
  rintro e w2 ⟨rfl, rfl⟩
  rw [← HG.out]
  have b0 := B0.out.cell 0 _ rfl
  have b1 := B1.out.cell 0 _ rfl
  have f0 := B0.out.free 0
  have f1 := B1.out.free 0
  clear hk hw1
  go_wp2
  refine leaves_cons (f := 66) (args := #[.pointer (some ⟨w.heap.size, 0, none⟩), .pointer (some ⟨w.heap.size + 1, 0, none⟩)]) (by simp) (by simp [go_sem]) ?_
  refine (gidle _ _ _).mono ?_
  rintro e u' w'' ⟨rfl, rfl, rfl⟩
  obtain ⟨r0, r1, rb⟩ := two_set B0.out B1.out (by omega) (.string g.1) (.int .i64 g.2)
  refine ⟨_, results_c2 rfl _ _ ⟨w.heap.size, 0, none⟩ ⟨w.heap.size + 1, 0, none⟩ _ _ rfl rfl (Try.isAgg9 _) (Try.isAgg34 _) (r0.cell 0 _ rfl) (r1.cell 0 _ rfl), rfl, BW.out.trans (rb.below BW.out.size (by intro k hk; simp at hk; omega))⟩
set_option maxRecDepth 100000 in
set_option maxHeartbeats 2000000 in
theorem askput_any (kb : Nat) (F : List Nat) (S : StD) (t : ByteArray) (w : World) (h : KpF kb S F w) (ht : t.size ≤ 100000) :
    Calls Try.prog 70 #[kpV kb, .string t] w fun e w' => e = .returned (.tuple #[.string (putS S t).1.1, .int .i64 (putS S t).1.2]) ∧ Tod (KpF kb (putS S t).2) F w w' := by
  have HF := Lib.hid h
  have HT := Lib.hid ht
  obtain ⟨g, hg⟩ : ∃ g, g = putS S t := ⟨_, rfl⟩
  have HG := Lib.hid hg
  clear hg
  rw [← HG.out]
  clear h ht
  have hmf : ∀ (fn : Fn) (first cap : Array Value) (w : World), (Instr.makeFunc fn first cap).run Try.prog w = .ok (.func fn first cap) w := fun _ _ _ _ => rfl
  go_enter_defers Try.func70, Try.ntmps70
  have i0 := fun W => inv_kput kb W
  obtain ⟨w1, hw1⟩ : ∃ w1, w1 = (w.alloc (.cells #[.string ⟨#[]⟩] 9 (0, 0))).alloc (.cells #[.int .i64 0] 34 (0, 0)) := ⟨_, rfl⟩
  have B0 : Hid (Box w1 w.heap.size 9 #[.string ⟨#[]⟩]) := by show Box _ _ _ _; rw [hw1]; exact (Box.new w _ _).alloc _
  have B1 : Hid (Box w1 (w.heap.size + 1) 34 #[.int .i64 0]) := by show Box _ _ _ _; rw [hw1]; exact box_second _ _ _ _
  have BW : Hid (Below w.heap.size w w1) := by show Below _ _ _; rw [hw1]; exact ((Below.refl _ _).alloc (Nat.le_refl _) _).alloc (by rw [size_alloc]; omega) _
  have KW : Hid (KpF kb S F w1) := HF.out.keep BW.out
  have HL : Hid (∀ k ∈ F, k < w.heap.size) := (fixed_kp kb S).lt _ _ HF.out
  go_wp2_with fail
  rw [← hw1]
  refine (kput_any kb F S t _ KW.out HT.out).mono ?_
  rintro e w2 ⟨rfl, htd⟩
  rw [← HG.out] at htd ⊢
  have HTD := Lib.hid htd
  obtain ⟨F1, _, hc, _⟩ := htd
  have C0 := Lib.hid (B0.out.of (hc.block _ B0.out.lt (fun hm => by have := HL.out _ hm; omega)))
  have C1 := Lib.hid (B1.out.of (hc.block _ B1.out.lt (fun hm => by have := HL.out _ hm; omega)))
  have b0 := C0.out.cell 0 _ rfl
  have b1 := C1.out.cell 0 _ rfl
  have f0 := C0.out.free 0
  have f1 := C1.out.free 0
  clear hw1 hc
  go_wp2
  refine leaves_cons (f := 78) (args := #[.pointer (some ⟨w.heap.size, 0, none⟩), .pointer (some ⟨w.heap.size + 1, 0, none⟩)]) (by simp) (by simp [go_sem]) ?_
  refine (pidle _ _ _).mono ?_
  rintro e u' w'' ⟨rfl, rfl, rfl⟩
  obtain ⟨r0, r1, rb⟩ := two_set C0.out C1.out (by omega) (.string g.1.1) (.int .i64 g.1.2)
  refine ⟨_, results_c2 rfl _ _ ⟨w.heap.size, 0, none⟩ ⟨w.heap.size + 1, 0, none⟩ _ _ rfl rfl (Try.isAgg9 _) (Try.isAgg34 _) (r0.cell 0 _ rfl) (r1.cell 0 _ rfl), rfl, ?_⟩
  refine HTD.out.aside (fixed_kp kb _) BW.out HL.out rb (by intro k hk; have := B1.out.lt; simp at hk; omega)
end Go.Proofs.Ytbeldjijnjgbfaa

namespace Go.Proofs.Ytbeldjijnjgbfaa
open Go Go.RowKit Go.ChangeShapes Go.WideShapes Go.ChangeAt

/-- A node of few entries, none of them long. -/
structure SmN (n : Nat) (d : NodeD) : Prop where
  kl : d.keys.length ≤ n
  vl : d.vals.length ≤ n
  sz : ∀ s ∈ d.keys ++ d.vals, s.size ≤ 65535
theorem SmN.mono {n m : Nat} {d : NodeD} (h : SmN n d) (hm : n ≤ m) : SmN m d := ⟨Nat.le_trans h.kl hm, Nat.le_trans h.vl hm, h.sz⟩
theorem SmN.max {n : Nat} {d : NodeD} (h : SmN n d) : ∀ s ∈ d.keys ++ d.vals, s.size ≤ maxLen := fun s hs => by have := h.sz s hs; unfold maxLen; omega
theorem sm_nil (n : Nat) : SmN n nilD := ⟨Nat.zero_le _, Nat.zero_le _, fun _ h => by cases h⟩
theorem sm_may {d : NodeD} (h : mayD d = true) : SmN 255 d := by
  have hM := may_bounds h
  refine ⟨hM.le, by have := hM.eq; have := hM.le; omega, fun s hs => ?_⟩
  rcases List.mem_append.1 hs with h | h
  · have := hM.ks s h; omega
  · have := hM.vs s h; omega
theorem may_chk {d : NodeD} (h : chkN d = 0) : mayD d = true := by
  unfold chkN at h
  split at h
  · assumption
  · cases h
theorem encd_small {d : NodeD} (h : chkN d = 0) : (encD d).size ≤ 100000 := by
  have hm := may_chk h
  obtain ⟨E, e, hE, hl⟩ := may_of hm
  have hs : sizeD d ≤ 960 := by
    unfold chkN at h
    rw [if_pos hm] at h
    split at h
    · cases h
    · omega
  unfold sizeD at hs
  rw [if_pos hm] at hs
  have e1 := enc_len d.leaf E hE hl
  rw [← e] at e1
  rw [e1]
  have e2 : E.map (·.1) = d.keys := by rw [e]; rfl
  have e3 : E.map (·.2) = d.vals := by rw [e]; rfl
  rw [e2, e3]
  omega
theorem putn_bad {S : StD} {d : NodeD} (h : chkN d ≠ 0) : putN S d = ((noT, chkN d), S) := if_pos h
theorem putn_err {S : StD} {d : NodeD} (h : chkN d = 0) (h2 : (putS S (encD d)).1.2 ≠ 0) : putN S d = ((noT, (putS S (encD d)).1.2), (putS S (encD d)).2) := by unfold putN; rw [if_neg (by simp [h]), if_pos h2]
theorem putn_arg {S : StD} {d : NodeD} (h : chkN d = 0) (h2 : (putS S (encD d)).1.2 = 0) (h3 : (putS S (encD d)).1.1.size = 0 ∨ 120 < (putS S (encD d)).1.1.size) : putN S d = ((noT, 1), (putS S (encD d)).2) := by unfold putN; rw [if_neg (by simp [h]), if_neg (by simp [h2]), if_pos h3]
theorem putn_ok {S : StD} {d : NodeD} (h : chkN d = 0) (h2 : (putS S (encD d)).1.2 = 0) (h3 : ¬ ((putS S (encD d)).1.1.size = 0 ∨ 120 < (putS S (encD d)).1.1.size)) : putN S d = putS S (encD d) := by unfold putN; rw [if_neg (by simp [h]), if_neg (by simp [h2]), if_neg h3]
theorem Tod.pre {Q : List Nat → World → Prop} {F : List Nat} {w w1 w2 : World} (h : Tod Q F w1 w2) (hw : Below w.heap.size w w1) : Tod Q F w w2 := by
  obtain ⟨F', h1, h2, h3⟩ := h
  refine ⟨F', h1, (Chg.of hw (Nat.le_refl _)).trans h2, fun k hk => ?_⟩
  rcases h3 k hk with h | h
  · exact .inl h
  · exact .inr (Nat.le_trans hw.size h)
theorem Tod.post {Q : List Nat → World → Prop} (hQ : Fixed Q) {F : List Nat} {w w1 w2 : World} (h : Tod Q F w w1) (hb : Below w1.heap.size w1 w2) : Tod Q F w w2 := h.trans fun _ h1 => Tod.same hQ h1 hb
theorem str_nil {s : ByteArray} (h : s.size = 0) : s = noT := by
  apply ByteArray.ext
  exact Array.eq_empty_of_size_eq_zero h
set_option maxRecDepth 100000 in
set_option maxHeartbeats 4000000 in
theorem tput_any (kb : Nat) (F : List Nat) (S : StD) (ka : Option Addr) (kc : Nat) (va : Option Addr) (vc : Nat) (d : NodeD) (w : World) (h : KpF kb S F w) (hn : NodeIn w ka va d) (hz : ∀ s ∈ d.keys ++ d.vals, s.size ≤ maxLen) :
    Calls Try.prog 62 #[kpV kb, nodeV ka kc va vc d] w fun e w' => e = .returned (.tuple #[.string (putN S d).1.1, .int .i64 (putN S d).1.2]) ∧ Tod (KpF kb (putN S d).2) F w w' := by
  have HF := Lib.hid h
  have HN := Lib.hid hn
  have HZ := Lib.hid hz
  have HB0 : Hid (∀ o, Below w.heap.size w (w.alloc o)) := fun o => (Below.refl _ _).alloc (Nat.le_refl _) o
  obtain ⟨g, hg⟩ : ∃ g, g = putN S d := ⟨_, rfl⟩
  have HG := Lib.hid hg
  clear hg h hn hz
  rw [← HG.out]
  have HV : Hid (Value.agg #[.bool d.leaf, .slice ka d.keys.length kc, .slice va d.vals.length vc] = nodeV ka kc va vc d) := rfl
  unfold nodeV
  go_enter Try.func62, Try.ntmps62
  go_wp2_with fail
  rw [HV.out]
  refine (encode_any ka kc va vc d _ (HN.out.keep (HB0.out _)) HZ.out).mono ?_
  rintro e w1 ⟨rfl, hb⟩
  have HB1 := Lib.hid ((HB0.out _).trans (hb.mono (by rw [size_alloc]; omega)))
  have HK1 := Lib.hid (HF.out.keep HB1.out)
  clear hb
  by_cases hc : chkN d = 0
  · have HE : Hid (encR d = encD d) := by show _ = _; unfold encR; rw [if_pos hc]
    rw [HE.out, hc]
    have HC := Lib.hid hc
    have HSM := Lib.hid (encd_small hc)
    clear hc
    go_wp2_with fail
    refine (askput_any kb F S (encD d) _ HK1.out HSM.out).mono ?_
    rintro e w2 ⟨rfl, ht⟩
    have HT : Hid (Tod (KpF kb (putS S (encD d)).2) F w w2) := ht.pre HB1.out
    clear ht
    by_cases h2 : (putS S (encD d)).1.2 = 0
    · by_cases h3 : (putS S (encD d)).1.1.size = 0 ∨ 120 < (putS S (encD d)).1.1.size
      · have HQ : Hid (g = _) := HG.out.trans (putn_arg HC.out h2 h3)
        have HFI : Hid (Tod (KpF kb g.2) F w w2) := by rw [HQ.out]; exact HT.out
        have HQ1 : Hid (g.1 = (noT, 1)) := by show _ = _; rw [HQ.out]
        rw [h2]
        clear HQ HT h2
        generalize (putS S (encD d)).1.1 = r at *
        by_cases h0 : r.size = 0
        · have h00 := str_nil h0
          subst h00
          go_wp2
          go_ret2
          exact ⟨by rw [HQ1.out]; rfl, HFI.out⟩
        · obtain ⟨g1, g2⟩ := str_some r (by omega)
          have h4 : 120 < r.size := by rcases h3 with h | h; exact absurd h h0; exact h
          clear h3
          go_wp2
          go_ret2
          exact ⟨by rw [HQ1.out]; rfl, HFI.out⟩
      · have HQ : Hid (g = _) := HG.out.trans (putn_ok HC.out h2 h3)
        have HFI : Hid (Tod (KpF kb g.2) F w w2) := by rw [HQ.out]; exact HT.out
        have HQ1 : Hid (g.1 = ((putS S (encD d)).1.1, 0)) := by show _ = _; rw [HQ.out, ← h2]
        rw [h2]
        clear HQ HT h2
        generalize (putS S (encD d)).1.1 = r at *
        obtain ⟨g1, g2⟩ := str_some r (by omega)
        have h4 : r.size ≤ 120 := by omega
        clear h3
        go_wp2
        go_ret2
        exact ⟨by rw [HQ1.out]; rfl, HFI.out⟩
    · have HQ : Hid (g = _) := HG.out.trans (putn_err HC.out h2)
      have HFI : Hid (Tod (KpF kb g.2) F w w2) := by rw [HQ.out]; exact HT.out
      have HQ1 : Hid (g.1 = (noT, (putS S (encD d)).1.2)) := by show _ = _; rw [HQ.out]
      clear HQ HT
      have e1 : ((putS S (encD d)).1.2 != 0) = true := by simpa using h2
      clear h2
      generalize (putS S (encD d)).1.1 = r at *
      generalize (putS S (encD d)).1.2 = c at *
      go_wp2
      go_ret2
      exact ⟨by rw [HQ1.out]; rfl, HFI.out⟩
  · have HQ : Hid (g = ((noT, chkN d), S)) := HG.out.trans (putn_bad hc)
    have HE : Hid (encR d = noT) := by show _ = _; unfold encR; rw [if_neg hc]
    rw [HE.out]
    have e1 : (chkN d != 0) = true := by simpa using hc
    clear hc
    go_wp2
    go_ret2
    refine ⟨by rw [HQ.out]; rfl, ?_⟩
    rw [HQ.out]
    exact Tod.same (fixed_kp kb S) HF.out HB1.out
end Go.Proofs.Ytbeldjijnjgbfaa
