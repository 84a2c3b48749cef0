/-
  Contract: the queue of a heat's counts.
-/
import Derived.Test.YtgdlnifncmiebaaHeatM
import Derived.Test.YtgdlnifncmiebaaHeatK
namespace Go.Proofs.Ytgdlnifncmiebaa
open Go.RowKit Go.ChangeShapes Go.WideShapes Go.ChangeAt

theorem ranges_chg {S : List Nat} {w w' : World} {b r n cnt : Nat} {D : DataW Unit} {left : Lit → Bool} (h : w.ranges Try.prog 9 markR b r n D left cnt) (hc : Chg S w w') (hb : b ∉ S) (hr : r ∉ S) : w'.ranges Try.prog 9 markR b r n D left cnt := by
  have hlt := h.owns.lt
  have hrt := h.lt
  obtain ⟨es, clock, since, seen, c0, h1, h2, h3, h4, h5, h6⟩ := h
  exact ⟨es, clock, since, seen, c0, (hc.block b hlt hb).trans h1, h2, h3, h4, (hc.block r hrt hr).trans h5, h6⟩
/-- The queue in block q, from B on, of the items l. -/
structure QV (B : Nat) (w : World) (q : Nat) (v : Value) (l : List ItD) : Prop where
  box : Box w q 67 #[v]
  row : Its w B v l
  ne : v.ownBlock ≠ some q
  lo : B ≤ q
theorem QV.chg {S : List Nat} {B : Nat} {w w' : World} {q : Nat} {v : Value} {l : List ItD} (h : QV B w q v l) (hc : Chg S w w') (hq : q ∉ S) (hv : ∀ k, v.ownBlock = some k → k ∉ S) : QV B w' q v l :=
  ⟨h.box.of (hc.block q h.box.lt hq), h.row.chg hc hv, h.ne, h.lo⟩
theorem its_low {B b : Nat} {w : World} {v : Value} {l : List ItD} (h : Its w B v l) (hb : b ≤ B) : Its w b v l := by
  refine ⟨h.1, ?_⟩
  rcases h.2 with h | ⟨g, cap, cur, h1, h2, h3⟩
  · exact .inl h
  · exact .inr ⟨g, cap, cur, h1, Nat.le_trans hb h2, h3⟩
theorem its_high {B b : Nat} {w : World} {v : Value} {l : List ItD} (h : Its w b v l) (hb : ∀ k, v.ownBlock = some k → B ≤ k) : Its w B v l := by
  refine ⟨h.1, ?_⟩
  rcases h.2 with h | ⟨g, cap, cur, rfl, h2, h3⟩
  · exact .inl h
  · exact .inr ⟨g, cap, cur, rfl, hb g rfl, h3⟩
/-- Push onto it. -/
theorem qv_push (B : Nat) (q : Nat) (v : Value) (l : List ItD) (x : ItD) (w : World) (h : QV B w q v l) (hlen : l.length ≤ 90000) :
    Calls Try.prog 27 #[.iface 58 (.pointer (some ⟨q, 0, none⟩)), .iface 61 (.agg #[.string x.1, .int .i64 x.2])] w fun e w' => e = .returned (.tuple #[]) ∧ ∃ v', QV B w' q v' (pushL hotter l x) ∧ (∀ k, v'.ownBlock = some k → v.ownBlock = some k ∨ w.heap.size ≤ k) ∧ ∃ S, Chg S w w' ∧ (∀ k ∈ S, B ≤ k) ∧ (∀ k ∈ S, k = q ∨ v.ownBlock = some k) := by
  obtain ⟨a, n, c, rfl⟩ : ∃ a n c, v = .slice a n c := by
    rcases h.row.form with ⟨h1, _⟩ | ⟨g, cap, h1, _⟩
    · exact ⟨_, _, _, h1⟩
    · exact ⟨_, _, _, h1⟩
  refine (hpush_any q a n c l x w h.box (its_low h.row (Nat.zero_le _)) h.ne hlen).mono ?_
  rintro e w' ⟨rfl, g, cap, hq, ho, hc⟩
  have hg : B ≤ g := by
    rcases ho with ho | ho
    · exact h.row.own_block g ho
    · have := h.box.lt; have := h.lo; omega
  refine ⟨rfl, _, ⟨hq.box, its_high hq.row (fun k hk => ?_), ?_, h.lo⟩, ?_, _, hc, ?_, ?_⟩
  · simp only [Value.ownBlock, Option.some.injEq] at hk
    omega
  · simp only [Value.ownBlock, ne_eq, Option.some.injEq]
    exact hq.ne
  · intro k hk
    simp only [Value.ownBlock, Option.some.injEq] at hk
    subst hk
    exact ho
  · intro k hk
    rcases List.mem_cons.1 hk with rfl | hk
    · exact h.lo
    · exact h.row.own_block k (by simpa using hk)
  · intro k hk
    rcases List.mem_cons.1 hk with rfl | hk
    · exact .inl rfl
    · exact .inr (by simpa using hk)

set_option maxRecDepth 100000 in
set_option maxHeartbeats 4000000 in
theorem queue_any (b : Nat) (F : List Nat) (l : List MkD) (now : Int) (w : World) (h : HeatF b l F w) (hok : OkM l) (hn : now ≤ 9223372036854775807) :
    Calls Try.prog 24 #[.pointer (some ⟨b, 0, none⟩), .int .i64 now] w fun e w' => ∃ q v lq, e = .returned (.pointer (some ⟨q, 0, none⟩)) ∧ QV w.heap.size w' q v lq ∧ HeapP hotter lq lq.length ∧ lq.Perm (itemsM l now) ∧ Below w.heap.size w w' := by
  obtain ⟨m, rfl, hne, hb, D, hown, hM⟩ := h
  have c0 := hb.cell 0 _ rfl
  have HB := Lib.hid hb
  have HM := Lib.hid hM
  have HOK := Lib.hid hok
  have HN := Lib.hid hn
  have hml := hown.lt
  have HML : Hid (m < w.heap.size) := hml
  have hbl := hb.lt
  have c2 : ∀ o1 o2, ((w.alloc o1).alloc o2).cell? ⟨b, 0, none⟩ = some (.map (some m)) := fun o1 o2 => ((hb.alloc o1).alloc o2).cell 0 _ rfl
  obtain ⟨W, hW⟩ : ∃ W, W = (w.alloc (.cells #[] 61)).alloc (.cells #[.slice (some ⟨w.heap.size, 0, none⟩) 0 0] 67) := ⟨_, rfl⟩
  have hown2 : W.ownsMap Try.prog 9 markR m l.length D := by rw [hW]; exact (hown.alloc _).alloc _
  have HWB : Hid (Below w.heap.size w W) := by rw [hW]; exact ((Below.refl _ _).alloc (Nat.le_refl _) _).alloc (by rw [size_alloc]; omega) _
  have HWQ : Hid (QV w.heap.size W (w.heap.size + 1) (.slice (some ⟨w.heap.size, 0, none⟩) 0 0) []) := by
    rw [hW]
    refine ⟨?_, ⟨rfl, .inr ⟨w.heap.size, 0, #[], rfl, Nat.le_refl _, ?_, Nat.le_refl _, by unfold maxLen; omega, rfl, rfl⟩⟩, ?_, by omega⟩
    · have := Box.new (w.alloc (.cells #[] 61)) 67 #[.slice (some ⟨w.heap.size, 0, none⟩) 0 0]
      rw [size_alloc] at this
      exact this
    · exact (Box.new w 61 #[]).alloc _
    · simp [Value.ownBlock]
  obtain ⟨q, hq⟩ : ∃ q, q = w.heap.size + 1 := ⟨_, rfl⟩
  rw [← hq] at HWQ
  clear hM hb hok hn c0 hown
  go_enter Try.func24, Try.ntmps24
  go_wp2_with (first
    | (at_range; rw [← hW, ← hq]; clear c2 hW; refine wpList_range_own _ rfl _ 47 rfl 9 51 keyedS Try.underlying47 markR m l.length D rfl hown2 ?_; intro w0 hrg0 hg0 hs0)
    | go_in)
  go_frame
  obtain ⟨r, hr⟩ : ∃ r, r = W.heap.size := ⟨_, rfl⟩
  rw [← hr] at hrg0 hs0 ⊢
  have HRW : Hid (w.heap.size ≤ r) := by rw [hr]; exact HWB.out.size
  have HRQ : Hid (r ≠ q ∧ r ≠ w.heap.size) := by
    have := HWQ.out.box.lt
    exact ⟨by omega, by omega⟩
  have HC0 : Hid (Chg [] W w0) := ⟨hg0.os, hg0.tape, hg0.output, hg0.size, fun k hk _ => hg0.block k hk (by simp)⟩
  clear hg0 hs0 hown2 hr hq
  go_loopw [8] (fun _ wr => ∃ (left : Lit → Bool) (cnt : Nat) (v : Value) (lq : List ItD), wr.ranges Try.prog 9 markR m r l.length D left cnt ∧ Hid (QV w.heap.size wr q v lq) ∧ Hid (v.ownBlock ≠ some r) ∧ Hid (HeapP hotter lq lq.length) ∧ Hid (lq.Perm (itemsM (l.filter (fun y => !left (kl y.1))) now)) ∧ Hid (Below w.heap.size w wr))
    (fun _ wr => wr.rangeLeft m r)
  case atStart =>
    refine ⟨_, _, _, [], hrg0, HWQ.out.chg HC0.out (by simp) (by simp), ?_, ?_, ?_, ?_⟩
    · show (Value.slice (some ⟨w.heap.size, 0, none⟩) 0 0).ownBlock ≠ some r
      simp only [Value.ownBlock, ne_eq, Option.some.injEq]
      exact fun e => HRQ.out.2 e.symm
    · exact fun k _ hk => by simp at hk
    · show ([] : List ItD).Perm _
      rw [items_none _ (fun x hx => ?_) now]
      rw [HM.out.has, find_of_mem HM.out.nodup hx]
      rfl
    · exact HWB.out.trans (HC0.out.below HWB.out.size (by simp))
  case round =>
    rename_i hkl
    obtain ⟨left, cnt, v, lq, hrg, HQV, HVR, HHP, HPM, HBB⟩ := hrel
    go_wp2_with (first
      | (at_next; refine wpList_next_ranges _ rfl _ rfl 9 keyedS markR Value.string (fun m : Int × Int => .agg #[.int .i64 m.1, .int .i64 m.2]) (fun key kl hkey => by obtain ⟨x, rfl, _⟩ := keyInvS hkey; exact ⟨x, rfl⟩) (fun v y hv => by obtain ⟨c, rfl, _⟩ := markR_inv hv; exact ⟨c, rfl⟩) m r l.length D left cnt rfl hrg ?_ ?_)
      | go_in)
    · intro _ hl0
      go_wp2
      go_ret
      have hp := HPM.out
      rw [items_all left l hl0] at hp
      exact ⟨q, v, lq, by simp, HQV.out, HHP.out, hp, HBB.out⟩
    · intro k cc ct kl' y1 y2 w1 cnt1 hkey hlk hR hat hrg1 hlt hg1 hs1 hen
      clear hkl
      obtain ⟨k', e1, e2, hk⟩ := keyInvS hkey
      cases e1
      subst e2
      obtain ⟨c2, e3, e4⟩ := markR_inv hR
      have hcc : c2 = (cc, ct) := by
        simp only [Value.agg.injEq, Array.mk.injEq, List.cons.injEq, Value.int.injEq, true_and, and_true] at e3
        exact (Prod.ext e3.1 e3.2).symm
      subst hcc
      have HFD : Hid (findM l k = some (cc, ct)) := by
        have h1 := Maps.has_true_of_atKey hat
        rw [HM.out.has] at h1
        show findM l k = some (cc, ct)
        cases e : findM l k with
        | none => rw [e] at h1; cases h1
        | some m2 =>
          have h2 := HM.out.at_ k m2 e (dM 0 0)
          rw [hat, show y1 = dM cc ct from congrArg Prod.fst e4] at h2
          have h3 := dM_inj h2
          exact congrArg some (Prod.ext h3.1.symm h3.2.symm)
      have HLK := Lib.hid hlk
      have HCNT : Hid (cnt1 < cnt) := hlt
      have HRGO := Lib.hid hrg
      have HRG1 := Lib.hid hrg1
      have HC1 : Hid (Chg [r] wr w1) := Chg.only hg1
      clear hrg hrg1 hlt hg1 hs1 hR hat hkey e3 e4 hlk
      obtain ⟨g, hg⟩ : ∃ g, g = worthOf cc ct now := ⟨_, rfl⟩
      have HG := Lib.hid hg
      have htick := HOK.out.tick HFD.out
      have HWW : Hid (∀ W2, Calls Try.prog 21 #[.agg #[.int .i64 cc, .int .i64 ct], .int .i64 now] W2 fun e w' => e = .returned (.int .i64 g) ∧ Below W2.heap.size W2 w') := by
        intro W2
        rw [hg]
        exact worth_any cc ct now W2 htick.1 HN.out
      have HLL : Hid (lq.length ≤ 90000) := by
        have h1 := HPM.out.length_eq
        have h2 := items_len (l.filter (fun y => !left (kl y.1))) now
        have h3 := List.length_filter_le (fun y : MkD => !left (kl y.1)) l
        have h4 := HOK.out.1
        show lq.length ≤ 90000
        omega
      have HIT : Hid ((itemsM (l.filter (fun y => !(left (kl y.1) && !(kl y.1).sameKey (kl k)))) now).Perm (itemsM (l.filter (fun y => !left (kl y.1))) now ++ (itM now (k, (cc, ct))).toList)) := items_one left k (cc, ct) now HM.out.nodup HFD.out HLK.out
      clear hg htick
      have HSZ := Lib.hid HC1.out.size
      by_cases hp : 0 < g
      · have hpd : decide (0 < g) = true := by simpa using hp
        have HIS : Hid (itM now (k, (cc, ct)) = some (k, g)) := by
          show (if 0 < worthOf cc ct now then some (k, worthOf cc ct now) else none) = _
          rw [← HG.out, if_pos hp]
        clear hp
        go_wp2_with fail
        refine (HWW.out _).mono ?_
        rintro e w2 ⟨rfl, hb2⟩
        have HC2 : Hid (Chg [r] wr w2) := (HC1.out.alloc _).trans (Chg.of hb2 (Nat.le_refl _))
        have HCC2 : Hid (Chg [] w1 w2) := ((Chg.refl _ _).alloc _).trans (Chg.of hb2 (Nat.le_refl _))
        have HQ2 : Hid (QV w.heap.size w2 q v lq) := HQV.out.chg HC2.out (by simpa using Ne.symm HRQ.out.1) (fun k hk hm => HVR.out (by rw [List.mem_singleton] at hm; rw [← hm]; exact hk))
        clear hb2 hen
        have HP := Lib.hid (qv_push w.heap.size q v lq (k, g) w2 HQ2.out HLL.out)
        go_wp2_with fail
        refine HP.out.mono ?_
        rintro e w3 ⟨rfl, v3, hq3, ho3, S, hS1, hS2, hS3⟩
        have HREL : Hid (w3.ranges Try.prog 9 markR m r l.length D (fun z => left z && !z.sameKey (kl k)) cnt1) := by
          refine ranges_chg (ranges_chg HRG1.out HCC2.out (by simp) (by simp)) hS1 (fun hm => ?_) (fun hm => ?_)
          · have := hS2 m hm; have := HML.out; omega
          · rcases hS3 r hm with h1 | h1
            · exact HRQ.out.1 h1
            · exact HVR.out h1
        have HQ3 := Lib.hid hq3
        have HV3 : Hid (v3.ownBlock ≠ some r) := fun e => by
          rcases ho3 r e with h1 | h1
          · exact HVR.out h1
          · have := HC2.out.size; have := HRGO.out.lt; omega
        have HB3 : Hid (Below w.heap.size w w3) := HBB.out.trans (((HC2.out.mono (S' := r :: S) (by simp)).trans (hS1.mono (S' := r :: S) (fun k hk => List.mem_cons_of_mem _ hk))).below HBB.out.size (fun k hk => by rcases List.mem_cons.1 hk with rfl | hk; exact HRW.out; exact hS2 k hk))
        clear hq3 ho3 hS1 hS2 hS3 HP
        go_wp2
        go_roundw
        case rel =>
          refine ⟨_, cnt1, v3, _, HREL.out, HQ3.out, HV3.out, push_heap hotter_strict (k, g) HHP.out, ?_, HB3.out⟩
          refine (push_perm lq (k, g)).trans (List.Perm.trans ?_ HIT.out.symm)
          rw [HIS.out]
          exact HPM.out.append_right _
        case measure => rw [HREL.out.left_eq, HRGO.out.left_eq]; exact HCNT.out
      · have hpd : decide (0 < g) = false := by simpa using hp
        have HIS : Hid (itM now (k, (cc, ct)) = none) := by
          show (if 0 < worthOf cc ct now then some (k, worthOf cc ct now) else none) = _
          rw [← HG.out, if_neg hp]
        clear hp
        go_wp2_with fail
        refine (HWW.out _).mono ?_
        rintro e w2 ⟨rfl, hb2⟩
        have HC2 : Hid (Chg [r] wr w2) := (HC1.out.alloc _).trans (Chg.of hb2 (Nat.le_refl _))
        have HCC2 : Hid (Chg [] w1 w2) := ((Chg.refl _ _).alloc _).trans (Chg.of hb2 (Nat.le_refl _))
        have HQ2 : Hid (QV w.heap.size w2 q v lq) := HQV.out.chg HC2.out (by simpa using Ne.symm HRQ.out.1) (fun k hk hm => HVR.out (by rw [List.mem_singleton] at hm; rw [← hm]; exact hk))
        clear hb2 hen
        have HREL : Hid (w2.ranges Try.prog 9 markR m r l.length D (fun z => left z && !z.sameKey (kl k)) cnt1) := ranges_chg HRG1.out HCC2.out (by simp) (by simp)
        have HB3 : Hid (Below w.heap.size w w2) := HBB.out.trans (HC2.out.below HBB.out.size (by simpa using HRW.out))
        go_wp2
        go_roundw
        case rel =>
          refine ⟨_, cnt1, v, lq, HREL.out, HQ2.out, HVR.out, HHP.out, ?_, HB3.out⟩
          refine List.Perm.trans ?_ HIT.out.symm
          rw [HIS.out]
          simpa using HPM.out
        case measure => rw [HREL.out.left_eq, HRGO.out.left_eq]; exact HCNT.out
end Go.Proofs.Ytgdlnifncmiebaa
