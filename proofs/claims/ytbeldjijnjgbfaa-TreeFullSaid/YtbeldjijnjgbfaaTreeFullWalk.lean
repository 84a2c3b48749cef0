/-
  The walk of TreeFull.
-/
import Derived.Test.YtbeldjijnjgbfaaMg43
import Derived.Test.YtbeldjijnjgbfaaMg0
import Derived.Test.YtbeldjijnjgbfaaMg41
namespace Go.Proofs.Ytbeldjijnjgbfaa.treeFull
open Go Go.RowKit Go.ChangeShapes Go.WideShapes Go.ChangeAt

/-- A change in a store of some room: it goes as with more room, or it fails, and fails so again. -/
theorem full_step {S : StD} {rt : ByteArray} {E : List Ent} {j : Nat} (h : InvR (reS S 100000) rt E j) (hj : j < 120) (hr : S.room ≤ 100000) (hl : S.l.length ≤ 17 * j) (o : OpT) :
    ((doesT S rt E o).1.2.2 = true ∧ InvR (reS (doesT S rt E o).2 100000) (doesT S rt E o).1.1 (doesT S rt E o).1.2.1 (j + 1) ∧ (doesT S rt E o).2.l.length ≤ S.l.length + 17) ∨
      ((doesT S rt E o).1.2.2 = false ∧ FullS (doesT S rt E o).2 ∧ ∀ T, GrowS S T → FullS T → (if o.1 = 0 then putT T rt o.2.1 o.2.2 else delT T rt o.2.1) = ((noT, 6), T)) := by
  have hroom : RoomS (reS S 100000) 17 := ⟨by show ((S.l.length + 17 : Nat) : Int) ≤ 100000; omega, by show S.l.length + 17 ≤ 1000000; omega⟩
  have hd := does_inv h hj hroom E o
  have he := does_is h hj hroom o
  obtain ⟨d, key, val⟩ := o
  by_cases hz : d = 0
  · rcases putT_or S hr rt key val with h6 | hor
    · right
      obtain ⟨k1, k2⟩ := putT_full h6
      have hq : (rputT E key val).2 ≠ 6 := by unfold rputT; split <;> (first | (show (0 : Int) ≠ 6; decide) | (show (1 : Int) ≠ 6; decide))
      have e : doesT S rt E (d, key, val) = ((rt, E, false), (putT S rt key val).2) := by
        unfold doesT
        simp only [if_pos hz]
        rw [if_pos (by rw [h6]; decide), h6, decide_eq_false (fun h => hq h.symm), Bool.false_and]
      rw [e]
      exact ⟨rfl, k1, fun T hg hf => by show (if d = 0 then putT T rt key val else delT T rt key) = _; rw [if_pos hz]; exact k2 T hg hf⟩
    · left
      have e : doesT (reS S 100000) rt E (d, key, val) = ((doesT S rt E (d, key, val)).1, reS (doesT S rt E (d, key, val)).2 100000) := by
        unfold doesT
        simp only [if_pos hz]
        rw [hor]
        by_cases hp : (putT S rt key val).1.2 = 0
        · rw [if_neg (fun e => e hp), if_neg (fun e => e hp)]
        · rw [if_pos hp, if_pos hp]
      rw [e] at hd he
      have hi := hd.inv
      have hn := hd.ln
      have e1 : (doesT S rt E (d, key, val)).1.2.1 = chgT E (d, key, val) := congrArg (·.1) he
      exact ⟨congrArg (·.2) he, by rw [e1]; exact hi, hn⟩
  · rcases delT_or S hr rt key with h6 | hor
    · right
      obtain ⟨k1, k2⟩ := delT_full h6
      have hq : (rdelT E key).2 ≠ 6 := by unfold rdelT; split <;> (first | (show (0 : Int) ≠ 6; decide) | (show (8 : Int) ≠ 6; decide))
      have e : doesT S rt E (d, key, val) = ((rt, E, false), (delT S rt key).2) := by
        unfold doesT
        simp only [if_neg hz]
        rw [if_pos (by rw [h6]; decide), h6, decide_eq_false (fun h => hq h.symm), Bool.false_and]
      rw [e]
      exact ⟨rfl, k1, fun T hg hf => by show (if d = 0 then putT T rt key val else delT T rt key) = _; rw [if_neg hz]; exact k2 T hg hf⟩
    · left
      have e : doesT (reS S 100000) rt E (d, key, val) = ((doesT S rt E (d, key, val)).1, reS (doesT S rt E (d, key, val)).2 100000) := by
        unfold doesT
        simp only [if_neg hz]
        rw [hor]
        by_cases hp : (delT S rt key).1.2 = 0
        · rw [if_neg (fun e => e hp), if_neg (fun e => e hp)]
        · rw [if_pos hp, if_pos hp]
      rw [e] at hd he
      have hi := hd.inv
      have hn := hd.ln
      have e1 : (doesT S rt E (d, key, val)).1.2.1 = chgT E (d, key, val) := congrArg (·.1) he
      exact ⟨congrArg (·.2) he, by rw [e1]; exact hi, hn⟩
theorem does_grow (S : StD) (rt : ByteArray) (l : List Ent) (o : OpT) : GrowS S (doesT S rt l o).2 := by
  unfold doesT
  by_cases hz : o.1 = 0
  · simp only [if_pos hz]
    split <;> exact putT_grow S rt _ _
  · simp only [if_neg hz]
    split <;> exact delT_grow S rt _
theorem does_cap {S : StD} (h : CapS S) (rt : ByteArray) (l : List Ent) (o : OpT) : CapS (doesT S rt l o).2 := by
  unfold doesT
  by_cases hz : o.1 = 0
  · simp only [if_pos hz]
    split <;> exact putT_cap h rt _ _
  · simp only [if_neg hz]
    split <;> exact delT_cap h rt _
/-- A store of that room, in blocks of the law's own. -/
structure LwR (kb : Nat) (S : StD) (F : List Nat) (w0 w : World) (room : Int) : Prop where
  kp : KpF kb S F w
  own : ∀ i ∈ F, kb ≤ i
  bel : Below kb w0 w
  room : S.room = room
  cap : CapS S
section
variable {kb : Nat} {S S2 : StD} {F F2 : List Nat} {w0 w w2 : World} {room : Int}
theorem LwR.lt (h : LwR kb S F w0 w room) : kb < w.heap.size := by
  obtain ⟨v, hk, _⟩ := h.kp
  exact hk.box.lt
theorem LwR.keep (h : LwR kb S F w0 w room) (hb : Below w.heap.size w w2) : LwR kb S F w0 w2 room :=
  ⟨h.kp.keep hb, h.own, h.bel.trans (hb.mono (Nat.le_of_lt h.lt)), h.room, h.cap⟩
theorem LwR.below (h : LwR kb S F w0 w room) (hc : Chg F w w2) : Below kb w w2 := hc.below (Nat.le_of_lt h.lt) h.own
theorem LwR.step (h : LwR kb S F w0 w room) (k2 : KpF kb S2 F2 w2) (hc : Chg F w w2) (hn : ∀ i ∈ F2, i ∈ F ∨ w.heap.size ≤ i) (hg : GrowS S S2) (hcap : CapS S2) : LwR kb S2 F2 w0 w2 room := by
  refine ⟨k2, fun i hi => ?_, h.bel.trans (h.below hc), by rw [hg.1]; exact h.room, hcap⟩
  rcases hn i hi with h1 | h1
  · exact h.own i h1
  · have := h.lt; omega
theorem LwR.new (w : World) (room : Int) (h0 : 0 ≤ room) (h1 : room ≤ 100000) : LwR w.heap.size ⟨[], room⟩ [w.heap.size] w (w.alloc (.cells #[.slice none 0 0, .int .i64 room] 28 (0, 0))) room :=
  ⟨kp_new w room h0 h1, fun i hi => by rw [List.mem_singleton] at hi; omega, (Below.refl _ _).alloc (Nat.le_refl _) _, rfl, h0⟩
theorem LwR.full (h : LwR kb S F w0 w room) (hf : FullS S) : ((S.l.length : Int) == room) = true := by
  have h1 := h.cap
  have h2 := h.room
  unfold FullS at hf
  unfold CapS at h1
  rw [beq_iff_eq]
  omega
end
def FuA (kb : Nat) (room : Int) (w0 : World) (j : Nat) (rt : ByteArray) (lv : Value) (w : World) : Prop :=
  ∃ S F E, LwR kb S F w0 w room ∧ S.l.length ≤ 17 * j ∧ InvR (reS S 100000) rt E j ∧ PqZ (· ∉ F) w lv E
set_option maxRecDepth 100000 in
set_option maxHeartbeats 16000000 in
theorem walk (w : World) (x0 : Option Addr) (c0 : Nat) (l0 : List OpT) (s0 : SlE w 3 OpTK x0 l0) (m0 : l0.length ≤ maxLen) (a1 : Int) (_w1 : (Lit.int .i64 a1).wf = true) :
    Calls Try.prog 4 #[.slice x0 l0.length c0, .int .i64 a1] w fun e w' => e = .returned (.bool true) ∧ Below w.heap.size w w' := by
  have HS := Lib.hid s0
  clear s0
  by_cases hq : 60 < l0.length
  · have d1 : (60 : Int) < (l0.length : Int) := by omega
    go_enter Try.func4, Try.ntmps4
    go_wp2_with fail
    refine (small_any x0 c0 l0 w (HS.out.rowT (Below.refl _ _)) m0).mono ?_
    rintro e w9 ⟨rfl, rfl⟩
    cases smT l0
    · go_wp2_with fail
      refine (live_any _).mono ?_
      rintro e w9 ⟨rfl, hb⟩
      have HB9 := Lib.hid hb
      clear hb
      go_wp2
      go_ret
      exact ⟨rfl, HB9.out⟩
    · go_wp2_with fail
      refine (live_any _).mono ?_
      rintro e w9 ⟨rfl, hb⟩
      have HB9 := Lib.hid hb
      clear hb
      go_wp2
      go_ret
      exact ⟨rfl, HB9.out⟩
  have d1 : ¬ (60 : Int) < (l0.length : Int) := by omega
  clear hq
  by_cases hq : a1 < 0
  · skip
    go_enter Try.func4, Try.ntmps4
    go_wp2_with fail
    refine (small_any x0 c0 l0 w (HS.out.rowT (Below.refl _ _)) m0).mono ?_
    rintro e w9 ⟨rfl, rfl⟩
    cases smT l0
    · go_wp2_with fail
      refine (live_any _).mono ?_
      rintro e w9 ⟨rfl, hb⟩
      have HB9 := Lib.hid hb
      clear hb
      go_wp2
      go_ret
      exact ⟨rfl, HB9.out⟩
    · go_wp2_with fail
      refine (live_any _).mono ?_
      rintro e w9 ⟨rfl, hb⟩
      have HB9 := Lib.hid hb
      clear hb
      go_wp2
      go_ret
      exact ⟨rfl, HB9.out⟩
  have hneg := hq
  clear hq
  by_cases hq : 300 < a1
  · skip
    go_enter Try.func4, Try.ntmps4
    go_wp2_with fail
    refine (small_any x0 c0 l0 w (HS.out.rowT (Below.refl _ _)) m0).mono ?_
    rintro e w9 ⟨rfl, rfl⟩
    cases smT l0
    · go_wp2_with fail
      refine (live_any _).mono ?_
      rintro e w9 ⟨rfl, hb⟩
      have HB9 := Lib.hid hb
      clear hb
      go_wp2
      go_ret
      exact ⟨rfl, HB9.out⟩
    · go_wp2_with fail
      refine (live_any _).mono ?_
      rintro e w9 ⟨rfl, hb⟩
      have HB9 := Lib.hid hb
      clear hb
      go_wp2
      go_ret
      exact ⟨rfl, HB9.out⟩
  have hbig := hq
  clear hq
  cases hsm : smT l0
  · go_enter Try.func4, Try.ntmps4
    go_wp2_with fail
    refine (small_any x0 c0 l0 w (HS.out.rowT (Below.refl _ _)) m0).mono ?_
    rintro e w9 ⟨rfl, rfl⟩
    rw [hsm]
    go_wp2_with fail
    refine (live_any _).mono ?_
    rintro e w9 ⟨rfl, hb⟩
    have HB9 := Lib.hid hb
    clear hb
    go_wp2
    go_ret
    exact ⟨rfl, HB9.out⟩
  obtain ⟨n, hn⟩ : ∃ n, n = l0.length := ⟨_, rfl⟩
  have HN := Lib.hid hn
  have hn1 : n ≤ 60 := by omega
  have HR : Hid (a1 ≤ 100000) := by show _ ≤ _; omega
  go_enter Try.func4, Try.ntmps4
  go_wp2_with fail
  refine (small_any x0 c0 l0 w (HS.out.rowT (Below.refl _ _)) m0).mono ?_
  rintro e w9 ⟨rfl, rfl⟩
  rw [hsm]
  clear hsm
  obtain ⟨kb, hkb⟩ : ∃ kb, kb = w.heap.size := ⟨_, rfl⟩
  obtain ⟨wk, hwk⟩ : ∃ wk, wk = w.alloc (.cells #[.slice none 0 0, .int .i64 a1] 28 (0, 0)) := ⟨_, rfl⟩
  have HKB := Lib.hid hkb
  have HI0 : Hid (FuA kb a1 w 0 noT (.slice none 0 0) wk) := ⟨⟨[], a1⟩, [kb], [], by rw [hwk, hkb]; exact LwR.new w a1 (by omega) (by omega), Nat.zero_le _, InvR.nil _, PqZ.nil _ _⟩
  have hwk2 := hwk.symm
  have hkb2 := hkb.symm
  clear hwk hkb
  go_wp2_with fail
  clear hwk2 hkb2
  rw [← hn] at d1 ⊢
  clear hn
  go_loopw [6, 7, 8] (fun rv lv i wr => ∃ (j : Nat) (rt : ByteArray), j ≤ n ∧ i = .int .i64 j ∧ rv = .string rt ∧ Hid (FuA kb a1 w j rt lv wr)) (fun _ _ i _ => ((n : Int) - RowKit.intOf i).toNat)
  case atStart => exact ⟨0, noT, Nat.zero_le _, rfl, rfl, HI0⟩
  case round =>
    clear HI0
    rename_i hjk
    obtain ⟨j, rt, hj, rfl, rfl, HI⟩ := hrel
    by_cases hlt : j < n
    · clear hjk
      have hltl : j < l0.length := by have := HN.out; omega
      have h0j : (0 : Int) ≤ (j : Int) := by omega
      have h1j : (j : Int) < (n : Int) := by omega
      obtain ⟨S, F, E, hL, hll, hI, hP⟩ := HI.out
      have hbw : Below w.heap.size w wr := by rw [← HKB.out]; exact hL.bel
      obtain ⟨b, off, hx0, hb0, q0, q1, q2, z1, z2⟩ := HS.out.top hbw j hltl
      subst hx0
      generalize l0[j] = x at *
      obtain ⟨xd, xk, xv⟩ := x
      have HL := Lib.hid hL
      have HLL := Lib.hid hll
      have HIA := Lib.hid hI
      have HPA := Lib.hid hP
      have HZ1 : Hid (xk.size ≤ maxLen) := z1
      have HZ2 : Hid (xv.size ≤ maxLen) := z2
      have HBK : Hid (b < kb) := by show _ < _; rw [HKB.out]; exact hb0
      have HC0 : Hid (wr.cell? ⟨b, off + j * 3, none⟩ = some (.int .i64 xd)) := q0
      have HC1 : Hid (wr.cell? ⟨b, off + j * 3 + 1, none⟩ = some (.string xk)) := q1
      have HC2 : Hid (wr.cell? ⟨b, off + j * 3 + 2, none⟩ = some (.string xv)) := q2
      clear hL hll hI hP hb0 hbw hltl z1 z2 HI
      go_wp2_with fail
      refine (does_any kb F S rt _ E (xd, xk, xv) wr HL.out.kp HPA.out (by have := HIA.out.small; unfold maxLen; omega) (by have := HIA.out.2; omega) HZ1.out HZ2.out).mono ?_
      rintro e w2 ⟨v2, F2, rfl, k2, c2, n2, p2⟩
      have hs := full_step HIA.out (by omega) (by rw [HL.out.room]; exact HR.out) HLL.out (xd, xk, xv)
      have HB2 := Lib.hid (HL.out.below c2)
      have HL2 := Lib.hid (HL.out.step k2 c2 n2 (does_grow S rt E (xd, xk, xv)) (does_cap HL.out.cap rt E (xd, xk, xv)))
      have HGR := Lib.hid (does_grow S rt E (xd, xk, xv))
      have HPL := Lib.hid (HPA.out.tod c2 n2)
      obtain ⟨X, hX⟩ : ∃ X, X = doesT S rt E (xd, xk, xv) := ⟨_, rfl⟩
      rw [← hX] at hs p2 HL2 HGR ⊢
      obtain ⟨⟨rt2, l2, ok⟩, S2⟩ := X
      have HP2 := Lib.hid p2
      clear k2 c2 n2 hX p2 q0 q1 q2 HL HPA
      rcases hs with ⟨h4, hinv, hlen⟩ | ⟨h4, hfull, hagain⟩
      · have h4 : ok = true := h4
        subst h4
        have HN2 : Hid (FuA kb a1 w (j + 1) rt2 v2 w2) := ⟨S2, F2, l2, HL2.out, by have := HLL.out; have h5 : S2.l.length ≤ S.l.length + 17 := hlen; omega, hinv, HP2.out⟩
        clear hinv hlen
        go_wp2_with fail
        go_roundw
        case rel => exact ⟨j + 1, rt2, by omega, by go_num, rfl, HN2⟩
        case measure => simp [RowKit.intOf]; omega
      · have h4 : ok = false := h4
        subst h4
        have HFU : Hid (FullS S2) := hfull
        have HAG : Hid (∀ T, GrowS S T → FullS T → (if xd = 0 then putT T rt xk xv else delT T rt xk) = ((noT, 6), T)) := hagain
        clear hfull hagain HP2
        go_wp2_with fail
        have e1 : w2.drew.cell? ⟨b, off + j * 3 + 1, none⟩ = some (.string xk) := (HB2.out.cell (p := ⟨b, off + j * 3 + 1, none⟩) HBK.out).trans HC1.out
        have e2 : w2.drew.cell? ⟨b, off + j * 3 + 2, none⟩ = some (.string xv) := (HB2.out.cell (p := ⟨b, off + j * 3 + 2, none⟩) HBK.out).trans HC2.out
        refine wp_region_tree (fun W => W.cell? ⟨b, off + j * 3 + 1, none⟩ = some (.string xk) ∧ W.cell? ⟨b, off + j * 3 + 2, none⟩ = some (.string xv)) 18 (.quiet 0 (.quiet 1 (.quiet 2 (.quiet 3 (.quiet 4 (.quiet 5 (.quiet 6 (.quiet 7 (.quiet 8 (.quiet 9 (.quiet 10 (.quiet 11 (.quiet 12 (.make 13 (.quiet 14 (.quiet 15 (.quiet 16 (.quiet 17 .nil)))))))))))))))))) (by kernel_rfl) (by kernel_rfl) ⟨e1, e2⟩ ?_
        simp only [List.drop_succ_cons, List.drop_zero]
        iterate 13 (apply wpTr_step rfl; (intro W hS K hK; obtain ⟨y0, y1⟩ := hS; go_simp; exact hK _ rfl))
        refine wpTr_make rfl (fun K' hK => ?_)
        go_simp
        have HLd : Hid (LwR kb S2 F2 w w2.drew a1) := HL2.out.keep ((Below.refl _ _).drew)
        refine (tputs_any kb F2 S2 rt xk xv _ HLd.out.kp (by have := HIA.out.small; unfold maxLen; omega) HZ1.out HZ2.out).mono ?_
        rintro e w3 ⟨rfl, F3, k2, c2, n2⟩
        have hb3 := HLd.out.below c2
        refine hK _ _ _ (fun _ h => h) ⟨(hb3.cell (p := ⟨b, off + j * 3 + 1, none⟩) HBK.out).trans e1, (hb3.cell (p := ⟨b, off + j * 3 + 2, none⟩) HBK.out).trans e2⟩ ?_
        clear hK K'
        iterate 4 (apply wpTr_step rfl; (intro W hS K hK; obtain ⟨y0, y1⟩ := hS; go_simp; exact hK _ rfl))
        refine wpTr_nil ?_
        have HPL3 := Lib.hid ((HPL.out.keep ((Below.refl _ _).drew)).tod c2 n2)
        have HBB := Lib.hid ((HB2.out.drew).trans hb3)
        have u0 : w3.cell? ⟨b, off + j * 3, none⟩ = some (.int .i64 xd) := (HBB.out.cell (p := ⟨b, off + j * 3, none⟩) HBK.out).trans HC0.out
        have u1 : w3.cell? ⟨b, off + j * 3 + 1, none⟩ = some (.string xk) := (HBB.out.cell (p := ⟨b, off + j * 3 + 1, none⟩) HBK.out).trans HC1.out
        clear e1 e2 hb3
        by_cases hz : xd = 0
        · have hA := HAG.out S2 HGR.out HFU.out
          rw [if_pos hz] at hA
          rw [hA] at k2 ⊢
          have HL3 := Lib.hid (HLd.out.step k2 c2 n2 (GrowS.refl S2) HLd.out.cap)
          have d5 : (xd != (0 : Int)) = false := by simp [hz]
          clear k2 c2 n2 hA hz HL2 HLd HPL
          go_wp2_with fail
          have HIT := Lib.hid (HIA.out.grow (HGR.out.re 100000))
          have HSC : Hid (scanT S2 rt noT 1000 = (E, 0)) := by show _ = _; rw [← scanT_re S2 100000]; exact scan_all HIT.out (by omega)
          have HEL : Hid (E.length ≤ 60) := by show _ ≤ _; have := HIA.out.2; omega
          refine (scan_any kb F3 S2 rt noT 1000 _ HL3.out.kp (by have := HIA.out.small; omega) (by decide)).mono ?_
          rintro e w5 ⟨v1, rfl, hz1, hb5⟩
          rw [HSC.out] at hz1 ⊢
          have HZ1 := Lib.hid hz1
          have HL3 := Lib.hid (HL3.out.keep hb5)
          have HPL3 := Lib.hid (HPL3.out.keep hb5)
          clear hz1 hb5 HSC HIT
          go_wp2_with fail
          refine (told_any _ v1 E _ HZ1.out (by have := HEL.out; omega)).mono ?_
          rintro e w6 ⟨t1, rfl, ht1, hb6⟩
          have HT1 := Lib.hid ht1
          have HL3 := Lib.hid (HL3.out.keep hb6)
          have HPL3 := Lib.hid (HPL3.out.keep hb6)
          clear ht1 hb6
          go_wp2_with fail
          refine (rsame_any _ _ t1 _ E E _ HT1.out HPL3.out).mono ?_
          rintro e w7 ⟨rfl, hb7⟩
          rw [decide_eq_true (rfl : E = E)]
          have HL3 := Lib.hid (HL3.out.keep hb7)
          clear hb7
          have hfl := HL3.out.full HFU.out
          have HBW : Hid (Below w.heap.size w w7) := by show Below _ _ _; rw [← HKB.out]; exact HL3.out.bel
          obtain ⟨kv, hkv, _⟩ := HL3.out.kp
          obtain ⟨ka, kc, rfl, _⟩ := hkv.row.view
          have g0 := hkv.box.cell 0 _ rfl
          clear hkv
          go_wp2_with fail
          refine (live_any _).mono ?_
          rintro e w9 ⟨rfl, hb⟩
          have HB9 := Lib.hid (HBW.out.trans (hb.mono HBW.out.size))
          clear hb
          go_wp2
          go_ret
          exact ⟨rfl, HB9.out⟩
        · have HT1 := Lib.hid (HLd.out.step k2 c2 n2 (putT_grow S2 rt xk xv) (putT_cap HLd.out.cap rt xk xv))
          have HG1 := Lib.hid (HGR.out.trans (putT_grow S2 rt xk xv))
          have HF1 := Lib.hid (HFU.out.grow (putT_grow S2 rt xk xv))
          obtain ⟨T, hT⟩ : ∃ T, T = putT S2 rt xk xv := ⟨_, rfl⟩
          rw [← hT] at HT1 HG1 HF1 ⊢
          obtain ⟨⟨tr, te⟩, S3⟩ := T
          have HGR : Hid (GrowS S S3) := HG1.out
          have HFU : Hid (FullS S3) := HF1.out
          have d5 : (xd != (0 : Int)) = true := by simp [hz]
          have hA := HAG.out S3 HGR.out HFU.out
          rw [if_neg hz] at hA
          have HA := Lib.hid hA
          clear k2 c2 n2 hA hz HL2 HLd HPL hT HG1 HF1
          go_wp2_with fail
          refine (tdel_any kb F3 S3 rt xk _ HT1.out.kp (by have := HIA.out.small; unfold maxLen; omega) HZ1.out).mono ?_
          rintro e w4 ⟨rfl, F4, k2, c2, n2⟩
          rw [HA.out] at k2 ⊢
          have HL3 := Lib.hid (HT1.out.step k2 c2 n2 (GrowS.refl S3) HT1.out.cap)
          have HPL3 := Lib.hid (HPL3.out.tod c2 n2)
          clear k2 c2 n2 HA HT1 u0 u1
          go_wp2_with fail
          have HIT := Lib.hid (HIA.out.grow (HGR.out.re 100000))
          have HSC : Hid (scanT S3 rt noT 1000 = (E, 0)) := by show _ = _; rw [← scanT_re S3 100000]; exact scan_all HIT.out (by omega)
          have HEL : Hid (E.length ≤ 60) := by show _ ≤ _; have := HIA.out.2; omega
          refine (scan_any kb F4 S3 rt noT 1000 _ HL3.out.kp (by have := HIA.out.small; omega) (by decide)).mono ?_
          rintro e w5 ⟨v1, rfl, hz1, hb5⟩
          rw [HSC.out] at hz1 ⊢
          have HZ1 := Lib.hid hz1
          have HL3 := Lib.hid (HL3.out.keep hb5)
          have HPL3 := Lib.hid (HPL3.out.keep hb5)
          clear hz1 hb5 HSC HIT
          go_wp2_with fail
          refine (told_any _ v1 E _ HZ1.out (by have := HEL.out; omega)).mono ?_
          rintro e w6 ⟨t1, rfl, ht1, hb6⟩
          have HT1 := Lib.hid ht1
          have HL3 := Lib.hid (HL3.out.keep hb6)
          have HPL3 := Lib.hid (HPL3.out.keep hb6)
          clear ht1 hb6
          go_wp2_with fail
          refine (rsame_any _ _ t1 _ E E _ HT1.out HPL3.out).mono ?_
          rintro e w7 ⟨rfl, hb7⟩
          rw [decide_eq_true (rfl : E = E)]
          have HL3 := Lib.hid (HL3.out.keep hb7)
          clear hb7
          have hfl := HL3.out.full HFU.out
          have HBW : Hid (Below w.heap.size w w7) := by show Below _ _ _; rw [← HKB.out]; exact HL3.out.bel
          obtain ⟨kv, hkv, _⟩ := HL3.out.kp
          obtain ⟨ka, kc, rfl, _⟩ := hkv.row.view
          have g0 := hkv.box.cell 0 _ rfl
          clear hkv
          go_wp2_with fail
          refine (live_any _).mono ?_
          rintro e w9 ⟨rfl, hb⟩
          have HB9 := Lib.hid (HBW.out.trans (hb.mono HBW.out.size))
          clear hb
          go_wp2
          go_ret
          exact ⟨rfl, HB9.out⟩
    · have hjl : j = n := by omega
      obtain ⟨S, F, E, hL, _, _, _⟩ := HI.out
      have HBW : Hid (Below w.heap.size w wr) := by show Below _ _ _; rw [← HKB.out]; exact hL.bel
      clear hL HI hjl
      go_wp2_with fail
      refine (live_any _).mono ?_
      rintro e w9 ⟨rfl, hb⟩
      have HB9 := Lib.hid (HBW.out.trans (hb.mono HBW.out.size))
      clear hb
      go_wp2
      go_ret
      exact ⟨rfl, HB9.out⟩
end Go.Proofs.Ytbeldjijnjgbfaa.treeFull
