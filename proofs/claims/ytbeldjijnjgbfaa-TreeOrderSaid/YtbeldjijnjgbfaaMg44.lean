/-
  Texts put together: Tdm, TreeOrderWalk.
-/
import Derived.Test.YtbeldjijnjgbfaaMg41
import Derived.Test.YtbeldjijnjgbfaaMg0
import Derived.Test.YtbeldjijnjgbfaaMg39
namespace Go.Proofs.Ytbeldjijnjgbfaa
open Go Go.RowKit Go.ChangeShapes Go.WideShapes Go.ChangeAt

/-- The pairs behind a put. -/
def putO (E : List Ent) (o : OpT) : List Ent := if okE o.2.1 o.2.2 = true then insE o.2.1 o.2.2 (dropE o.2.1 E) else E
def runP (l : List OpT) : List Ent := l.foldl putO []
theorem runP_snoc (l : List OpT) (o : OpT) : runP (l ++ [o]) = putO (runP l) o := by unfold runP; rw [List.foldl_append]; rfl
theorem mem_insE {key val : ByteArray} {E : List Ent} {x : Ent} : x ∈ insE key val E ↔ x = (key, val) ∨ x ∈ E := by
  constructor
  · exact insE_mem
  · induction E with
    | nil => intro h; rcases h with h | h
             · rw [h, insE]; exact List.mem_cons_self ..
             · cases h
    | cons y r ih =>
      intro h
      rw [insE]
      split
      · rcases h with h | h
        · rw [h]; exact List.mem_cons_self ..
        · exact List.mem_cons_of_mem _ h
      · rcases h with h | h
        · exact List.mem_cons_of_mem _ (ih (.inl h))
        · rcases List.mem_cons.1 h with h | h
          · rw [h]; exact List.mem_cons_self ..
          · exact List.mem_cons_of_mem _ (ih (.inr h))
theorem mem_drop {key : ByteArray} {E : List Ent} {x : Ent} : x ∈ dropE key E ↔ x ∈ E ∧ x.1 ≠ key := by
  unfold dropE
  rw [List.mem_filter]
  simp
def keysT (l : List OpT) : List ByteArray := l.map (fun o => o.2.1)
/-- With no key twice the pairs are those of the script that may be. -/
theorem runP_memR (r : List OpT) : (keysT r.reverse).Nodup → ∀ x, x ∈ runP r.reverse ↔ ∃ o ∈ r.reverse, okE o.2.1 o.2.2 = true ∧ x = (o.2.1, o.2.2) := by
  induction r with
  | nil => intro _ x; constructor
           · intro h; cases h
           · rintro ⟨o, h, _⟩; cases h
  | cons o r ih =>
    intro hn x
    rw [List.reverse_cons] at hn ⊢
    generalize r.reverse = l at *
    have hk : keysT (l ++ [o]) = keysT l ++ [o.2.1] := by unfold keysT; rw [List.map_append]; rfl
    rw [hk, List.nodup_append] at hn
    obtain ⟨h1, _, h3⟩ := hn
    have ih := ih h1
    have hout : ∀ p ∈ l, p.2.1 ≠ o.2.1 := fun p hp => h3 _ (List.mem_map_of_mem hp) _ (by simp)
    rw [runP_snoc]
    unfold putO
    cases hok : okE o.2.1 o.2.2
    · rw [if_neg (by decide), ih x]
      constructor
      · rintro ⟨p, hp, h⟩; exact ⟨p, List.mem_append_left _ hp, h⟩
      · rintro ⟨p, hp, h4, h5⟩
        rcases List.mem_append.1 hp with hp | hp
        · exact ⟨p, hp, h4, h5⟩
        · rw [List.mem_singleton.1 hp, hok] at h4; cases h4
    · rw [if_pos rfl, mem_insE, mem_drop, ih x]
      constructor
      · rintro (h | ⟨⟨p, hp, h⟩, _⟩)
        · exact ⟨o, by simp, hok, h⟩
        · exact ⟨p, List.mem_append_left _ hp, h⟩
      · rintro ⟨p, hp, h4, h5⟩
        rcases List.mem_append.1 hp with hp | hp
        · exact .inr ⟨⟨p, hp, h4, h5⟩, by rw [h5]; exact hout p hp⟩
        · rw [List.mem_singleton.1 hp] at h5; exact .inl h5
theorem runP_mem (l : List OpT) (h : (keysT l).Nodup) : ∀ x, x ∈ runP l ↔ ∃ o ∈ l, okE o.2.1 o.2.2 = true ∧ x = (o.2.1, o.2.2) := by
  have := runP_memR l.reverse
  rw [List.reverse_reverse] at this
  exact this h
theorem up_eq : ∀ {A B : List Ent}, Up (A.map (·.1)) → Up (B.map (·.1)) → (∀ x, x ∈ A ↔ x ∈ B) → A = B
  | [], [], _, _, _ => rfl
  | [], b :: B, _, _, h => by have := (h b).2 (List.mem_cons_self ..); cases this
  | a :: A, [], _, _, h => by have := (h a).1 (List.mem_cons_self ..); cases this
  | a :: A, b :: B, ha, hb, h => by
    have ha' := List.pairwise_cons.1 (show List.Pairwise (fun x y => ltK x y = true) (a.1 :: A.map (·.1)) from ha)
    have hb' := List.pairwise_cons.1 (show List.Pairwise (fun x y => ltK x y = true) (b.1 :: B.map (·.1)) from hb)
    have e : a = b := by
      rcases List.mem_cons.1 ((h a).1 (List.mem_cons_self ..)) with h1 | h1
      · exact h1
      · rcases List.mem_cons.1 ((h b).2 (List.mem_cons_self ..)) with h2 | h2
        · exact h2.symm
        · have h3 := ha'.1 b.1 (List.mem_map_of_mem h2)
          have h4 := hb'.1 a.1 (List.mem_map_of_mem h1)
          rw [ltK_as h3] at h4; cases h4
    subst e
    congr 1
    refine up_eq ha'.2 hb'.2 (fun x => ?_)
    have hx := h x
    rw [List.mem_cons, List.mem_cons] at hx
    constructor
    · intro hm
      rcases hx.1 (.inr hm) with h1 | h1
      · have := ha'.1 x.1 (List.mem_map_of_mem hm); rw [h1, ltK_irr] at this; cases this
      · exact h1
    · intro hm
      rcases hx.2 (.inr hm) with h1 | h1
      · have := hb'.1 x.1 (List.mem_map_of_mem hm); rw [h1, ltK_irr] at this; cases this
      · exact h1
theorem runP_perm {l m : List OpT} (hp : l.Perm m) (hn : (keysT l).Nodup) (hl : OkL (runP l)) (hm : OkL (runP m)) : runP l = runP m := by
  have hn2 : (keysT m).Nodup := (hp.map _).nodup_iff.1 hn
  refine up_eq hl.up hm.up (fun x => ?_)
  rw [runP_mem l hn, runP_mem m hn2]
  constructor
  · rintro ⟨o, ho, h⟩; exact ⟨o, hp.mem_iff.1 ho, h⟩
  · rintro ⟨o, ho, h⟩; exact ⟨o, hp.mem_iff.2 ho, h⟩
theorem rotT_get (l : List OpT) (c j i : Nat) (hc : c < l.length) (hj : j < l.length) (hi : i = (j + c) % l.length) (h : i < l.length) : (l.drop c ++ l.take c)[j]? = some l[i] := by
  rcases Nat.lt_or_ge (c + j) l.length with h1 | h1
  · have e : i = c + j := by rw [hi, Nat.mod_eq_of_lt (by omega)]; omega
    rw [List.getElem?_append_left (by rw [List.length_drop]; omega), List.getElem?_drop, ← e, List.getElem?_eq_getElem h]
  · have e : i = c + j - l.length := by
      rw [hi, show j + c = (c + j - l.length) + l.length from by omega, Nat.add_mod_right, Nat.mod_eq_of_lt (by omega)]
    rw [List.getElem?_append_right (by rw [List.length_drop]; omega), List.length_drop, List.getElem?_take_of_lt (by omega), show j - (l.length - c) = i from by omega, List.getElem?_eq_getElem h]
theorem rotT_perm (l : List OpT) (c : Nat) : l.Perm (l.drop c ++ l.take c) := by
  have h := List.perm_append_comm (l₁ := l.take c) (l₂ := l.drop c)
  rw [List.take_append_drop] at h
  exact h
theorem rotT_take (l : List OpT) (c j i : Nat) (hc : c < l.length) (hj : j < l.length) (hi : i = (j + c) % l.length) (h : i < l.length) : (l.drop c ++ l.take c).take (j + 1) = (l.drop c ++ l.take c).take j ++ [l[i]] := by
  have hg := rotT_get l c j i hc hj hi h
  have hlen : j < (l.drop c ++ l.take c).length := by rw [← (rotT_perm l c).length_eq]; exact hj
  rw [List.take_succ_eq_append_getElem hlen]
  rw [List.getElem?_eq_getElem hlen] at hg
  rw [Option.some.inj hg]
theorem putO_bad {E : List Ent} {o : OpT} (h : okE o.2.1 o.2.2 = false) : putO E o = E := by unfold putO; rw [h]; exact if_neg (by decide)
theorem putO_ok {E : List Ent} {o : OpT} (h : okE o.2.1 o.2.2 = true) : putO E o = insE o.2.1 o.2.2 (dropE o.2.1 E) := by unfold putO; exact if_pos h
theorem InvR.six {S : StD} {root : ByteArray} {E : List Ent} {n : Nat} (h : InvR S root E n) (he : E ≠ []) : root.size = 6 := by
  obtain ⟨⟨i, W, h1, _, _⟩, _⟩ := h
  rcases h1 with ⟨_, h, _⟩ | ⟨h, _⟩
  · exact absurd h he
  · exact h
theorem ins_ne {key val : ByteArray} {E : List Ent} : insE key val E ≠ [] := fun h => by
  have := mem_insE.2 (.inl rfl : (key, val) = (key, val) ∨ (key, val) ∈ E)
  rw [h] at this; cases this
theorem six_ne {r : ByteArray} (h : r.size = 6) : r.toList.isEmpty = false := by
  rw [ByteArray.toList_eq]
  cases h5 : r.data.toList with
  | nil => have h6 : r.data.toList.length = 6 := by simpa using h
           rw [h5] at h6; cases h6
  | cons a b => rfl
theorem nil_size {r : ByteArray} (h : r.size = 0) : r = noT := by
  obtain ⟨d⟩ := r
  have h1 : d.size = 0 := h
  rw [Array.size_eq_zero_iff.1 h1]
theorem scan_all {S : StD} {root : ByteArray} {E : List Ent} {n : Nat} (h : InvR S root E n) (hn : n ≤ 1000) : scanT S root noT 1000 = (E, 0) := by
  obtain ⟨⟨i, W, h1, h2, _⟩, h4⟩ := h
  rw [scan_is h1 (by omega)]
  have e : E.filter (fun x => !ltK x.1 noT) = E := List.filter_eq_self.2 (fun x _ => by
    cases h5 : ltK x.1 noT
    · rfl
    · have := ltK_as h5
      rw [ltK_nil] at this
      rcases Nat.eq_zero_or_pos x.1.size with h6 | h6
      · have : x.1 = noT := nil_size h6
        rw [this, ltK_irr] at h5; cases h5
      · rw [decide_eq_true h6] at this; cases this)
  rw [e, List.take_of_length_le (by show E.length ≤ 1000; omega)]
end Go.Proofs.Ytbeldjijnjgbfaa

namespace Go.Proofs.Ytbeldjijnjgbfaa.treeOrder
open Go Go.RowKit Go.ChangeShapes Go.WideShapes Go.ChangeAt

/-- A put comes to a root, or to none. -/
theorem put_two {S : StD} {r : ByteArray} {E : List Ent} {n : Nat} (h : InvR S r E n) (hn : n < 120) (hs : RoomS S 17) (o : OpT) :
    ((putT S r o.2.1 o.2.2).1.1.toList.isEmpty = false ∧ InvR (putT S r o.2.1 o.2.2).2 (putT S r o.2.1 o.2.2).1.1 (putO E o) (n + 1) ∨ (putT S r o.2.1 o.2.2).1.1 = noT ∧ InvR (putT S r o.2.1 o.2.2).2 r (putO E o) (n + 1)) ∧
      GrowS S (putT S r o.2.1 o.2.2).2 ∧ (putT S r o.2.1 o.2.2).2.l.length ≤ S.l.length + 17 := by
  cases hok : okE o.2.1 o.2.2
  · rw [put_arg hok, putO_bad hok]
    exact ⟨.inr ⟨rfl, h.more (Nat.le_succ _)⟩, GrowS.refl S, Nat.le_add_right _ _⟩
  · have hw := inv_put h hn hs hok
    rw [putO_ok hok]
    exact ⟨.inl ⟨six_ne (hw.inv.six ins_ne), hw.inv⟩, hw.gr, hw.ln⟩
/-- What stands behind j puts into either tree. -/
def OrA (kb : Nat) (l : List OpT) (c : Nat) (w0 : World) (j : Nat) (ra rb : ByteArray) (w : World) : Prop :=
  ∃ S F, LwT kb S F w0 w (2 * j) ∧ InvR S ra (runP (l.take j)) j ∧ InvR S rb (runP ((l.drop c ++ l.take c).take j)) j ∧ (keysT (l.take j)).Nodup
theorem OrA.keep {kb : Nat} {l : List OpT} {c : Nat} {w0 : World} {j : Nat} {ra rb : ByteArray} {w w2 : World} (h : OrA kb l c w0 j ra rb w) (hb : Below w.heap.size w w2) : OrA kb l c w0 j ra rb w2 := by
  obtain ⟨S, F, h1, h2⟩ := h
  exact ⟨S, F, h1.keep hb, h2⟩
theorem keys_more {l : List OpT} {j : Nat} (hj : j < l.length) (h : (keysT (l.take j)).Nodup) (hn : ∀ q, q < j → ∀ h : q < l.length, l[q].2.1 ≠ l[j].2.1) : (keysT (l.take (j + 1))).Nodup := by
  have e : keysT (l.take (j + 1)) = keysT (l.take j) ++ [l[j].2.1] := by unfold keysT; rw [List.take_succ_eq_append_getElem hj, List.map_append]; rfl
  rw [e, List.nodup_append]
  refine ⟨h, by simp, fun a ha b hb => ?_⟩
  rw [List.mem_singleton] at hb
  rw [hb]
  unfold keysT at ha
  obtain ⟨o, ho, rfl⟩ := List.mem_map.1 ha
  obtain ⟨q, hq, e⟩ := List.getElem_of_mem ho
  rw [List.length_take] at hq
  rw [← e, List.getElem_take]
  exact hn q (by omega) (by omega)
set_option maxRecDepth 100000 in
set_option maxHeartbeats 16000000 in
theorem walk (w : World) (x0 : Option Addr) (c0 : Nat) (l0 : List OpT) (s0 : SlE w 3 OpTK x0 l0) (m0 : l0.length ≤ maxLen) (a1 : Int) (_w1 : (Lit.int .i64 a1).wf = true) :
    Calls Try.prog 7 #[.slice x0 l0.length c0, .int .i64 a1] w fun e w' => e = .returned (.bool true) ∧ Below w.heap.size w w' := by
  have HS := Lib.hid s0
  clear s0
  by_cases h60 : 60 < l0.length
  · have d1 : (60 : Int) < (l0.length : Int) := by omega
    go_enter Try.func7, Try.ntmps7
    go_wp2_with fail
    refine (small_any x0 c0 l0 w (HS.out.rowT (Below.refl _ _)) m0).mono ?_
    rintro e w9 ⟨rfl, rfl⟩
    cases smT l0
    · go_wp2_with fail
      refine (live_any _).mono ?_
      rintro e w9 ⟨rfl, hb⟩
      have HB9 := Lib.hid hb
      clear hb
      go_wp2
      go_ret
      exact ⟨rfl, HB9.out⟩
    · go_wp2_with fail
      refine (live_any _).mono ?_
      rintro e w9 ⟨rfl, hb⟩
      have HB9 := Lib.hid hb
      clear hb
      go_wp2
      go_ret
      exact ⟨rfl, HB9.out⟩
  have d1 : ¬ (60 : Int) < (l0.length : Int) := by omega
  by_cases hz : l0.length = 0
  · have d2 : ((l0.length : Int) == (0 : Int)) = true := by simp [hz]
    have d2p : (l0.length : Int) = 0 := by omega
    clear hz
    go_enter Try.func7, Try.ntmps7
    go_wp2_with fail
    refine (small_any x0 c0 l0 w (HS.out.rowT (Below.refl _ _)) m0).mono ?_
    rintro e w9 ⟨rfl, rfl⟩
    cases smT l0
    · go_wp2_with fail
      refine (live_any _).mono ?_
      rintro e w9 ⟨rfl, hb⟩
      have HB9 := Lib.hid hb
      clear hb
      go_wp2
      go_ret
      exact ⟨rfl, HB9.out⟩
    · go_wp2_with fail
      refine (live_any _).mono ?_
      rintro e w9 ⟨rfl, hb⟩
      have HB9 := Lib.hid hb
      clear hb
      go_wp2
      go_ret
      exact ⟨rfl, HB9.out⟩
  have d2 : ((l0.length : Int) == (0 : Int)) = false := by rw [beq_eq_false_iff_ne]; omega
  by_cases hneg : a1 < 0
  · go_enter Try.func7, Try.ntmps7
    go_wp2_with fail
    refine (small_any x0 c0 l0 w (HS.out.rowT (Below.refl _ _)) m0).mono ?_
    rintro e w9 ⟨rfl, rfl⟩
    cases smT l0
    · go_wp2_with fail
      refine (live_any _).mono ?_
      rintro e w9 ⟨rfl, hb⟩
      have HB9 := Lib.hid hb
      clear hb
      go_wp2
      go_ret
      exact ⟨rfl, HB9.out⟩
    · go_wp2_with fail
      refine (live_any _).mono ?_
      rintro e w9 ⟨rfl, hb⟩
      have HB9 := Lib.hid hb
      clear hb
      go_wp2
      go_ret
      exact ⟨rfl, HB9.out⟩
  cases hsm : smT l0
  · go_enter Try.func7, Try.ntmps7
    go_wp2_with fail
    refine (small_any x0 c0 l0 w (HS.out.rowT (Below.refl _ _)) m0).mono ?_
    rintro e w9 ⟨rfl, rfl⟩
    rw [hsm]
    go_wp2_with fail
    refine (live_any _).mono ?_
    rintro e w9 ⟨rfl, hb⟩
    have HB9 := Lib.hid hb
    clear hb
    go_wp2
    go_ret
    exact ⟨rfl, HB9.out⟩
  have HA1 : Hid (0 ≤ a1) := by show 0 ≤ a1; omega
  obtain ⟨n, hn⟩ : ∃ n, n = l0.length := ⟨_, rfl⟩
  have HN := Lib.hid hn
  have hn0 : 0 < n := by omega
  have hn1 : n ≤ 60 := by omega
  obtain ⟨c, hcdef⟩ : ∃ c : Nat, (c : Int) = a1 % (n : Int) := ⟨(a1 % (n : Int)).toNat, Int.toNat_of_nonneg (Int.emod_nonneg a1 (show (n : Int) ≠ 0 by omega))⟩
  have hcn : c < n := by have h := Int.emod_lt_of_pos a1 (show (0 : Int) < (n : Int) by omega); rw [← hcdef] at h; omega
  have K1 : Hid (Int.tmod a1 (n : Int) = (c : Int)) := by show _ = _; rw [Int.tmod_eq_emod_of_nonneg HA1.out]; exact hcdef.symm
  clear hcdef
  go_enter Try.func7, Try.ntmps7
  go_wp2_with fail
  refine (small_any x0 c0 l0 w (HS.out.rowT (Below.refl _ _)) m0).mono ?_
  rintro e w9 ⟨rfl, rfl⟩
  rw [hsm]
  clear hsm
  obtain ⟨kb, hkb⟩ : ∃ kb, kb = w.heap.size := ⟨_, rfl⟩
  obtain ⟨wk, hwk⟩ : ∃ wk, wk = w.alloc (.cells #[.slice none 0 0, .int .i64 100000] 28 (0, 0)) := ⟨_, rfl⟩
  have HKB := Lib.hid hkb
  have HI0 : Hid (OrA kb l0 c w 0 noT noT wk) := ⟨⟨[], 100000⟩, [kb], by rw [hwk, hkb]; exact LwT.new w, InvR.nil _, InvR.nil _, List.nodup_nil⟩
  have hwk2 := hwk.symm
  have hkb2 := hkb.symm
  clear hwk hkb
  go_wp2_with fail
  clear hwk2 hkb2
  rw [← hn] at d1 d2 ⊢
  clear hn hneg h60 hz
  go_loopw [6, 7, 8] (fun av bv i wr => ∃ (j : Nat) (ra rb : ByteArray), j ≤ n ∧ i = .int .i64 j ∧ av = .string ra ∧ bv = .string rb ∧ Hid (OrA kb l0 c w j ra rb wr)) (fun _ _ i _ => ((n : Int) - RowKit.intOf i).toNat)
  case atStart => exact ⟨0, noT, noT, Nat.zero_le _, rfl, rfl, rfl, HI0⟩
  case round =>
    clear HI0
    rename_i hjk
    obtain ⟨j, ra, rb, hj, rfl, rfl, rfl, HI⟩ := hrel
    by_cases hlt : j < n
    · clear hjk
      have hltl : j < l0.length := by have := HN.out; omega
      have h0j : (0 : Int) ≤ (j : Int) := by omega
      have h1j : (j : Int) < (n : Int) := by omega
      have HLT := Lib.hid hltl
      clear hltl
      go_wp2_with fail
      go_loopw [9] (fun pv wr => ∃ p : Nat, p ≤ j ∧ pv = .int .i64 p ∧ Hid (∀ q, q < p → ∀ h : q < l0.length, l0[q].2.1 ≠ (l0[j]'HLT.out).2.1) ∧ Hid (OrA kb l0 c w j ra rb wr)) (fun pv _ => ((j : Int) - RowKit.intOf pv).toNat)
      case atStart => exact ⟨0, Nat.zero_le _, rfl, fun q hq => by omega, HI⟩
      case round =>
        clear HI
        rename_i hpk
        obtain ⟨p, hp, rfl, HD, HI⟩ := hrel
        have HBW : Hid (Below w.heap.size w wr) := by obtain ⟨S, F, h1, _⟩ := HI.out; show Below _ _ _; rw [← HKB.out]; exact h1.bel
        by_cases hlp : p < j
        · clear hpk
          have hpl : p < l0.length := by have := HN.out; omega
          obtain ⟨b, off, hx0, hb0, q0, q1, q2, z1, z2⟩ := HS.out.top HBW.out j HLT.out
          obtain ⟨b2, off2, hx1, _, p0, p1, p2, _, _⟩ := HS.out.top HBW.out p hpl
          rw [hx0] at hx1
          injection hx1 with hx1
          injection hx1 with hx1 hx2 _
          subst hx1 hx2 hx0
          have h0p : (0 : Int) ≤ (p : Int) := by omega
          have h1p : (p : Int) < (n : Int) := by omega
          have HDN : Hid (l0[p].2.1 ≠ (l0[j]'HLT.out).2.1 → ∀ q, q < p + 1 → ∀ h : q < l0.length, l0[q].2.1 ≠ (l0[j]'HLT.out).2.1) := fun hne q hq hql => by
            rcases Nat.lt_or_ge q p with h1 | h1
            · exact HD.out q h1 hql
            · have : q = p := by omega
              subst this
              exact hne
          obtain ⟨key, hkey⟩ : ∃ key, key = (l0[j]'HLT.out).2.1 := ⟨_, rfl⟩
          obtain ⟨kep, hkep⟩ : ∃ kep, kep = l0[p].2.1 := ⟨_, rfl⟩
          rw [← hkey] at q1 HDN
          rw [← hkep] at p1 HDN
          have HID : Hid (OrA kb l0 c w j ra rb wr.drew) := HI.out.keep ((Below.refl _ _).drew)
          have HBD : Hid (Below w.heap.size w wr.drew) := HBW.out.drew
          have HKY := Lib.hid hkey
          clear q0 q2 p0 p2 z1 z2 hb0 hkey hkep HI HBW
          by_cases he : kep = key
          · have hq : (kep.toList == key.toList) = true := by rw [beq_key]; simpa using he
            clear he
            go_wp2_with fail
            have e1 : wr.drew.cell? ⟨b, off + p * 3 + 1, none⟩ = some (.string kep) := p1
            have e2 : wr.drew.cell? ⟨b, off + j * 3 + 1, none⟩ = some (.string key) := q1
            refine wp_region_tree (fun W => W.cell? ⟨b, off + p * 3 + 1, none⟩ = some (.string kep) ∧ W.cell? ⟨b, off + j * 3 + 1, none⟩ = some (.string key)) 10 (.quiet 0 (.quiet 1 (.quiet 2 (.quiet 3 (.quiet 4 (.quiet 5 (.quiet 6 (.quiet 7 (.quiet 8 (.quiet 9 .nil)))))))))) (by kernel_rfl) (by kernel_rfl) ⟨e1, e2⟩ ?_
            simp only [List.drop_succ_cons, List.drop_zero]
            iterate 10 (apply wpTr_step rfl; (intro W hS K hK; obtain ⟨y0, y1⟩ := hS; go_simp; exact hK _ rfl))
            refine wpTr_nil ?_
            go_wp2_with fail
            refine (live_any _).mono ?_
            rintro e w9 ⟨rfl, hb⟩
            have HB9 := Lib.hid (HBD.out.trans (hb.mono HBD.out.size))
            clear hb
            go_wp2
            go_ret
            exact ⟨rfl, HB9.out⟩
          · have hq : (kep.toList == key.toList) = false := by rw [beq_key]; simpa using he
            have HD2 := Lib.hid (HDN.out he)
            rw [HKY.out] at HD2
            clear he HDN HD
            go_wp2_with fail
            have e1 : wr.drew.cell? ⟨b, off + p * 3 + 1, none⟩ = some (.string kep) := p1
            have e2 : wr.drew.cell? ⟨b, off + j * 3 + 1, none⟩ = some (.string key) := q1
            refine wp_region_tree (fun W => W.cell? ⟨b, off + p * 3 + 1, none⟩ = some (.string kep) ∧ W.cell? ⟨b, off + j * 3 + 1, none⟩ = some (.string key)) 10 (.quiet 0 (.quiet 1 (.quiet 2 (.quiet 3 (.quiet 4 (.quiet 5 (.quiet 6 (.quiet 7 (.quiet 8 (.quiet 9 .nil)))))))))) (by kernel_rfl) (by kernel_rfl) ⟨e1, e2⟩ ?_
            simp only [List.drop_succ_cons, List.drop_zero]
            iterate 10 (apply wpTr_step rfl; (intro W hS K hK; obtain ⟨y0, y1⟩ := hS; go_simp; exact hK _ rfl))
            refine wpTr_nil ?_
            clear e1 e2 p1 q1
            go_wp2_with fail
            go_roundw
            case rel => exact ⟨p + 1, by omega, by go_num, HD2, HID⟩
            case measure => simp [RowKit.intOf]; omega
        · have hpj : p = j := by omega
          have HDJ : Hid (∀ q, q < j → ∀ h : q < l0.length, l0[q].2.1 ≠ (l0[j]'HLT.out).2.1) := by rw [hpj] at HD; exact HD
          clear HD hpj
          obtain ⟨b, off, hx0, hb0, q0, q1, q2, z1, z2⟩ := HS.out.top HBW.out j HLT.out
          subst hx0
          have HBK : Hid (b < kb) := by show _ < _; rw [HKB.out]; exact hb0
          obtain ⟨i2, hi2⟩ : ∃ i2, i2 = (j + c) % n := ⟨_, rfl⟩
          have hr0 : i2 < n := by rw [hi2]; exact Nat.mod_lt _ hn0
          have hrl : i2 < l0.length := by have := HN.out; omega
          have k1 := K1.out
          have k2 : ((n : Int) == 0) = false := by rw [beq_eq_false_iff_ne]; omega
          have k3 : ¬ (n : Int) = 0 := by omega
          have k4 : IntKind.i64.wrap ((j : Int) + (c : Int)) = (j : Int) + (c : Int) := IntWalk.i64_in _ ⟨by omega, by omega⟩
          have k5 : Int.tmod ((j : Int) + (c : Int)) (n : Int) = (i2 : Int) := by rw [Int.tmod_eq_emod_of_nonneg (by omega), hi2, ← Int.natCast_add]; exact (Int.natCast_emod _ _).symm
          have r0 : (0 : Int) ≤ (i2 : Int) := by omega
          have r1 : (i2 : Int) < (n : Int) := by omega
          obtain ⟨S, F, hL, hIa, hIb, hND⟩ := HI.out
          have HND2 := Lib.hid (keys_more HLT.out hND HDJ.out)
          have HTA := Lib.hid (List.take_succ_eq_append_getElem HLT.out)
          have HTB := Lib.hid (rotT_take l0 c j i2 (by have := HN.out; omega) HLT.out (by rw [hi2, HN.out]) hrl)
          have HPI : Hid (∀ W, Below w.heap.size w W → W.cell? ⟨b, off + i2 * 3, none⟩ = some (.int .i64 l0[i2].1) ∧ W.cell? ⟨b, off + i2 * 3 + 1, none⟩ = some (.string l0[i2].2.1) ∧ W.cell? ⟨b, off + i2 * 3 + 2, none⟩ = some (.string l0[i2].2.2) ∧ l0[i2].2.1.size ≤ maxLen ∧ l0[i2].2.2.size ≤ maxLen) := fun W hW => by
            obtain ⟨b2, off2, hx1, _, p0, p1, p2, p3, p4⟩ := HS.out.top hW i2 hrl
            injection hx1 with hx1
            injection hx1 with hx1 hx2 _
            subst hx1 hx2
            exact ⟨p0, p1, p2, p3, p4⟩
          generalize l0[i2] = y at *
          generalize l0[j]'HLT.out = x at *
          obtain ⟨yd, yk, yv⟩ := y
          obtain ⟨xd, xk, xv⟩ := x
          have HL := Lib.hid hL
          have HIA := Lib.hid hIa
          have HIB := Lib.hid hIb
          have hrs := hIa.small
          have hrt := hIb.small
          have z1 : xk.size ≤ maxLen := z1
          have z2 : xv.size ≤ maxLen := z2
          clear hL hIa hIb hND hi2 hr0 hrl HDJ HI q0 hb0
          go_wp2_with fail
          have e1 : wr.drew.cell? ⟨b, off + j * 3 + 1, none⟩ = some (.string xk) := q1
          have e2 : wr.drew.cell? ⟨b, off + j * 3 + 2, none⟩ = some (.string xv) := q2
          refine wp_region_tree (fun W => W.cell? ⟨b, off + j * 3 + 1, none⟩ = some (.string xk) ∧ W.cell? ⟨b, off + j * 3 + 2, none⟩ = some (.string xv)) 18 (.quiet 0 (.quiet 1 (.quiet 2 (.quiet 3 (.quiet 4 (.quiet 5 (.quiet 6 (.quiet 7 (.quiet 8 (.quiet 9 (.quiet 10 (.quiet 11 (.quiet 12 (.make 13 (.quiet 14 (.quiet 15 (.quiet 16 (.quiet 17 .nil)))))))))))))))))) (by kernel_rfl) (by kernel_rfl) ⟨e1, e2⟩ ?_
          simp only [List.drop_succ_cons, List.drop_zero]
          iterate 13 (apply wpTr_step rfl; (intro W hS K hK; obtain ⟨y0, y1⟩ := hS; go_simp; exact hK _ rfl))
          refine wpTr_make rfl (fun K' hK => ?_)
          go_simp
          have HLd : Hid (LwT kb S F w wr.drew (2 * j)) := HL.out.keep ((Below.refl _ _).drew)
          refine (tputs_any kb F S ra xk xv _ HLd.out.kp (by unfold maxLen; omega) z1 z2).mono ?_
          rintro e w2 ⟨rfl, F2, k2', c2, n2⟩
          have hb2 := HLd.out.below c2
          refine hK _ _ _ (fun _ h => h) ⟨(hb2.cell (p := ⟨b, off + j * 3 + 1, none⟩) HBK.out).trans e1, (hb2.cell (p := ⟨b, off + j * 3 + 2, none⟩) HBK.out).trans e2⟩ ?_
          clear hK K'
          iterate 4 (apply wpTr_step rfl; (intro W hS K hK; obtain ⟨y0, y1⟩ := hS; go_simp; exact hK _ rfl))
          refine wpTr_nil ?_
          have hp1 := put_two HIA.out (by omega) (HLd.out.has (by omega)) (xd, xk, xv)
          have HL2 := Lib.hid (HLd.out.step k2' c2 n2 hp1.2.1 hp1.2.2)
          have HIB2 := Lib.hid (HIB.out.grow hp1.2.1)
          have HP1 := Lib.hid hp1.1
          obtain ⟨R, hR⟩ : ∃ R, R = putT S ra xk xv := ⟨_, rfl⟩
          rw [← hR] at HP1 HL2 HIB2 ⊢
          have HBW2 : Hid (Below w.heap.size w w2) := by show Below _ _ _; rw [← HKB.out]; exact HL2.out.bel
          obtain ⟨p0, p1, p2, p3, p4⟩ := HPI.out w2 HBW2.out
          have p3 : yk.size ≤ maxLen := p3
          have p4 : yv.size ≤ maxLen := p4
          have HP3 := Lib.hid p3
          have HP4 := Lib.hid p4
          clear e1 e2 q1 q2 z1 z2 hb2 hp1 k2' c2 n2 hR HPI HL HLd HIB HIA p3 p4
          obtain ⟨gb, hgb⟩ : ∃ gb, gb = w2.heap.size := ⟨_, rfl⟩
          obtain ⟨wa, hwa⟩ : ∃ wa, wa = w2.alloc (.cells #[.int .i64 yd, .string yk, .string yv] 33 (0, 0)) := ⟨_, rfl⟩
          have HBA : Hid (Below w2.heap.size w2 wa) := by show Below _ _ _; rw [hwa]; exact (Below.refl _ _).alloc (Nat.le_refl _) _
          have HBX : Hid (Box wa gb 33 #[.int .i64 yd, .string yk, .string yv]) := by show Box _ _ _ _; rw [hwa, hgb]; exact Box.new _ _ _
          have e1 := HBX.out.cell 1 _ rfl
          have e2 := HBX.out.cell 2 _ rfl
          have hwa2 := hwa.symm
          have hgb2 := hgb.symm
          clear hwa hgb
          go_wp2_with fail
          clear hwa2 hgb2 p0 p1 p2 k1 k2 k3 k4 k5 r0 r1
          have HLA := Lib.hid (HL2.out.keep HBA.out)
          refine (tputs_any kb F2 R.2 rb yk yv wa HLA.out.kp (by unfold maxLen; omega) HP3.out HP4.out).mono ?_
          rintro e w3 ⟨rfl, F3, k2', c2, n2⟩
          have hp2 := put_two HIB2.out (by omega) (HLA.out.has (by omega)) (yd, yk, yv)
          have HL3 := Lib.hid ((HLA.out.step k2' c2 n2 hp2.2.1 hp2.2.2))
          have HPA : Hid ((R.1.1.toList.isEmpty = false ∧ InvR (putT R.2 rb yk yv).2 R.1.1 (runP (l0.take (j + 1))) (j + 1)) ∨ R.1.1 = noT ∧ InvR (putT R.2 rb yk yv).2 ra (runP (l0.take (j + 1))) (j + 1)) := by
            show _ ∨ _
            rw [HTA.out, runP_snoc]
            rcases HP1.out with ⟨h1, h2⟩ | ⟨h1, h2⟩
            · exact .inl ⟨h1, h2.grow hp2.2.1⟩
            · exact .inr ⟨h1, h2.grow hp2.2.1⟩
          have HPB : Hid (((putT R.2 rb yk yv).1.1.toList.isEmpty = false ∧ InvR (putT R.2 rb yk yv).2 (putT R.2 rb yk yv).1.1 (runP ((l0.drop c ++ l0.take c).take (j + 1))) (j + 1)) ∨ (putT R.2 rb yk yv).1.1 = noT ∧ InvR (putT R.2 rb yk yv).2 rb (runP ((l0.drop c ++ l0.take c).take (j + 1))) (j + 1)) := by
            show _ ∨ _
            rw [HTB.out, runP_snoc]
            exact hp2.1
          obtain ⟨T, hT⟩ : ∃ T, T = putT R.2 rb yk yv := ⟨_, rfl⟩
          rw [← hT] at HPA HPB HL3 ⊢
          clear hp2 k2' c2 n2 hT e1 e2
          obtain ⟨⟨xr, xe⟩, S2⟩ := R
          obtain ⟨⟨yr, ye⟩, S3⟩ := T
          rcases HPA.out with ⟨hA, hA2⟩ | ⟨hA, hA2⟩
          · rcases HPB.out with ⟨hB, hB2⟩ | ⟨hB, hB2⟩
            · have HN2 : Hid (OrA kb l0 c w (j + 1) xr yr w3) := ⟨S3, F3, HL3.out.more (by omega), hA2, hB2, HND2.out⟩
              clear hA2 hB2 HPA HPB
              have hA : xr.toList.isEmpty = false := hA
              have hB : yr.toList.isEmpty = false := hB
              go_wp2_with fail
              go_roundw
              case rel => exact ⟨j + 1, xr, yr, by omega, by go_num, rfl, rfl, HN2⟩
              case measure => simp [RowKit.intOf]; omega
            · have hB : yr = noT := hB
              have HN2 : Hid (OrA kb l0 c w (j + 1) xr rb w3) := ⟨S3, F3, HL3.out.more (by omega), hA2, hB2, HND2.out⟩
              clear hA2 hB2 HPA HPB
              have hA : xr.toList.isEmpty = false := hA
              subst hB
              go_wp2_with fail
              go_roundw
              case rel => exact ⟨j + 1, xr, rb, by omega, by go_num, rfl, rfl, HN2⟩
              case measure => simp [RowKit.intOf]; omega
          · have hA : xr = noT := hA
            rcases HPB.out with ⟨hB, hB2⟩ | ⟨hB, hB2⟩
            · have HN2 : Hid (OrA kb l0 c w (j + 1) ra yr w3) := ⟨S3, F3, HL3.out.more (by omega), hA2, hB2, HND2.out⟩
              clear hA2 hB2 HPA HPB HP1
              have hB : yr.toList.isEmpty = false := hB
              subst hA
              go_wp2_with fail
              go_roundw
              case rel => exact ⟨j + 1, ra, yr, by omega, by go_num, rfl, rfl, HN2⟩
              case measure => simp [RowKit.intOf]; omega
            · have hB : yr = noT := hB
              have HN2 : Hid (OrA kb l0 c w (j + 1) ra rb w3) := ⟨S3, F3, HL3.out.more (by omega), hA2, hB2, HND2.out⟩
              clear hA2 hB2 HPA HPB HP1
              subst hA hB
              go_wp2_with fail
              go_roundw
              case rel => exact ⟨j + 1, ra, rb, by omega, by go_num, rfl, rfl, HN2⟩
              case measure => simp [RowKit.intOf]; omega
    · have hjl : j = n := by omega
      obtain ⟨S, F, hL, hIa, hIb, hND⟩ := HI.out
      rw [hjl, HN.out] at hIa hIb hND
      have hlr : (l0.drop c ++ l0.take c).length = l0.length := (rotT_perm l0 c).length_eq.symm
      rw [List.take_of_length_le (Nat.le_refl _)] at hIa hND
      rw [List.take_of_length_le (by omega)] at hIb
      rw [← runP_perm (rotT_perm l0 c) hND hIa.okL hIb.okL] at hIb
      obtain ⟨E, hE⟩ : ∃ E, E = runP l0 := ⟨_, rfl⟩
      rw [← hE] at hIa hIb
      have hl6 : l0.length ≤ 60 := by have := HN.out; omega
      have HL := Lib.hid hL
      have HIA := Lib.hid hIa
      have HIB := Lib.hid hIb
      have HEL : Hid (E.length ≤ 60) := by show _ ≤ _; have := hIa.2; omega
      have HSA := Lib.hid (scan_all hIa (by omega))
      have HSB := Lib.hid (scan_all hIb (by omega))
      have hrs := hIa.small
      have hrt := hIb.small
      clear hL hIa hIb hND hjl hlr hE HI hl6
      go_wp2_with fail
      refine (scan_any kb F S ra noT 1000 _ HL.out.kp (by omega) (by decide)).mono ?_
      rintro e w2 ⟨v1, rfl, hz1, hb2⟩
      rw [HSA.out] at hz1 ⊢
      have HZ1 := Lib.hid hz1
      have HL2 := Lib.hid (HL.out.keep hb2)
      clear hz1 hb2 HL HSA
      go_wp2_with fail
      refine (scan_any kb F S rb noT 1000 _ HL2.out.kp (by omega) (by decide)).mono ?_
      rintro e w3 ⟨v2, rfl, hz2, hb3⟩
      rw [HSB.out] at hz2 ⊢
      have HZ1 := Lib.hid (HZ1.out.keep hb3)
      have HZ2 := Lib.hid hz2
      have HL3 := Lib.hid (HL2.out.keep hb3)
      clear hz2 hb3 HL2 HSB
      go_wp2_with fail
      refine (told_any _ v1 E w3 HZ1.out (by have := HEL.out; omega)).mono ?_
      rintro e w4 ⟨t1, rfl, ht1, hb4⟩
      have HT1 := Lib.hid ht1
      have HZ2 := Lib.hid (HZ2.out.keep hb4)
      have HL4 := Lib.hid (HL3.out.keep hb4)
      clear ht1 hb4 HL3 HZ1
      go_wp2_with fail
      refine (told_any _ v2 E w4 HZ2.out (by have := HEL.out; omega)).mono ?_
      rintro e w5 ⟨t2, rfl, ht2, hb5⟩
      have HT1 := Lib.hid (HT1.out.keep hb5)
      have HT2 := Lib.hid ht2
      have HL5 := Lib.hid (HL4.out.keep hb5)
      clear ht2 hb5 HL4 HZ2
      go_wp2_with fail
      refine (rsame_any _ _ t1 t2 E E w5 HT1.out HT2.out).mono ?_
      rintro e w6 ⟨rfl, hb6⟩
      rw [decide_eq_true (rfl : E = E)]
      have HL6 := Lib.hid (HL5.out.keep hb6)
      clear hb6 HL5 HT1 HT2
      have HBW : Hid (Below w.heap.size w w6) := by show Below _ _ _; rw [← HKB.out]; exact HL6.out.bel
      go_wp2_with fail
      refine (live_any _).mono ?_
      rintro e w9 ⟨rfl, hb⟩
      have HB9 := Lib.hid (HBW.out.trans (hb.mono HBW.out.size))
      clear hb
      go_wp2
      go_ret
      exact ⟨rfl, HB9.out⟩
end Go.Proofs.Ytbeldjijnjgbfaa.treeOrder
