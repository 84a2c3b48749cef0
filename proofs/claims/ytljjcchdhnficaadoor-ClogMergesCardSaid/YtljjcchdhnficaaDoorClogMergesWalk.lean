/-
  The walk of ClogMerges.
-/
import Derived.Test.YtljjcchdhnficaaDoorClogLive
import Derived.Test.YtljjcchdhnficaaDoorClogH
import Derived.Test.YtljjcchdhnficaaDoorMg41
import Derived.Test.YtljjcchdhnficaaDoorMg0
import Derived.Test.YtljjcchdhnficaaDoorMg32
namespace Go.Proofs.YtljjcchdhnficaaDoor.clogMerges
open Go.RowKit Go.ChangeShapes Go.WideShapes Go.ChangeAt

/-- The blocks made so far. -/
structure MgJ (w : World) (l : List BkD) (k : Nat) (v : Value) (L : List BkD) (W : World) : Prop where
  row : Bks W w.heap.size v L
  map : L.map bkM = (l.take k).map bkM
  own : ∀ x ∈ L, ∀ b off, x.a = some ⟨b, off, none⟩ → v.ownBlock ≠ some b ∧ b < W.heap.size
  small : ∀ x ∈ l.take k, x.ents.length ≤ 100
  bl : Below w.heap.size w W
theorem MgJ.keep {w : World} {l : List BkD} {k : Nat} {v : Value} {L : List BkD} {W W' : World} (h : MgJ w l k v L W) (hb : Below W.heap.size W W') : MgJ w l k v L W' :=
  ⟨h.row.keep hb, h.map, fun x hx b off e => ⟨(h.own x hx b off e).1, Nat.lt_of_lt_of_le (h.own x hx b off e).2 hb.size⟩, h.small, h.bl.trans (hb.mono h.bl.size)⟩
theorem MgJ.push {w : World} {l : List BkD} {k : Nat} {v : Value} {L : List BkD} {W W' : World} (h : MgJ w l k v L W) (hk : k < l.length) (hs : (l[k]).ents.length ≤ 100) {y : BkD} (hy : bkM y = bkM l[k]) (hyb : ∀ b off, y.a = some ⟨b, off, none⟩ → v.ownBlock ≠ some b ∧ b < W.heap.size) {v' : Value}
    (hr : Bks W' w.heap.size v' (L ++ [y])) (hg : W.grownBy W' v.ownBlock) (ho : v'.ownBlock = v.ownBlock ∨ v'.ownBlock = some W.heap.size) : MgJ w l (k + 1) v' (L ++ [y]) W' := by
  refine ⟨hr, ?_, ?_, ?_, below_bks h.bl hg h.row h.bl.size⟩
  · rw [List.take_succ_eq_append_getElem hk, List.map_append, List.map_append, h.map]
    simp only [List.map_cons, List.map_nil, hy]
  · intro x hx b off e
    have h1 : v.ownBlock ≠ some b ∧ b < W.heap.size := by
      rcases List.mem_append.1 hx with hx | hx
      · exact h.own x hx b off e
      · rw [List.mem_singleton.1 hx] at e
        exact hyb b off e
    refine ⟨?_, Nat.lt_of_lt_of_le h1.2 hg.size⟩
    rcases ho with ho | ho
    · rw [ho]; exact h1.1
    · rw [ho]; intro e2; injection e2 with e2; omega
  · intro x hx
    rw [List.take_succ_eq_append_getElem hk] at hx
    rcases List.mem_append.1 hx with hx | hx
    · exact h.small x hx
    · rw [List.mem_singleton.1 hx]; exact hs
set_option maxRecDepth 100000 in
set_option maxHeartbeats 4000000 in
theorem walk (w : World) (hK : Kt w) (x0 : Option Addr) (c0 : Nat) (l0 : List BkD) (s0 : SlE w 2 (BkE w) x0 l0) (_m0 : l0.length ≤ maxLen) :
    Calls Tryd.prog 5 #[.slice x0 l0.length c0] w fun e w' => e = .returned (.bool true) ∧ Below w.heap.size w w' := by
  have HK := Lib.hid hK
  have HP := Lib.hid hK.pos
  have L0 := Lib.hid (Below.refl w.heap.size w)
  have H := Lib.hid (SlBk.ofE s0)
  have HME : Hid (∀ x ∈ l0, x.ents.length ≤ maxLen) := fun x hx => by
    obtain ⟨i, hi, rfl⟩ := List.getElem_of_mem hx
    obtain ⟨b, off, _, _, hc⟩ := s0 (fun e => by rw [e] at hi; cases hi)
    obtain ⟨cs, _, ⟨_, _, h⟩, _⟩ := hc i _ (List.getElem?_eq_getElem hi)
    exact h
  clear hK s0
  by_cases hbig : 20 < l0.length
  · have d0 : decide ((20 : Int) < (l0.length : Int)) = true := decide_eq_true (by omega)
    clear hbig _m0 HME H
    go_enter Tryd.func5, Tryd.ntmps5
    go_wp2_with fail
    refine (clive_any _ (HK.out.below L0.out HP.out)).mono ?_
    rintro e vz ⟨rfl, hb⟩
    have LZ := Lib.hid (L0.out.trans (hb.mono L0.out.size))
    clear hb
    go_wp2
    go_ret
    exact ⟨rfl, LZ.out⟩
  have d0 : decide ((20 : Int) < (l0.length : Int)) = false := decide_eq_false (by omega)
  have HL : Hid (l0.length ≤ 20) := by show l0.length ≤ 20; omega
  clear hbig _m0
  go_enter Tryd.func5, Tryd.ntmps5
  go_wp2
  clear d0
  go_loopw [3, 4] (fun o i wr => ∃ (k : Nat) (v : Value) (L : List BkD), k ≤ l0.length ∧ i = .int .i64 k ∧ v = o ∧ Hid (MgJ w l0 k v L wr)) (fun _ i _ => l0.length - (RowKit.intOf i).toNat)
  case atStart => exact ⟨0, _, [], Nat.zero_le _, rfl, rfl, ⟨Bks.nil _ _, rfl, fun _ h => by (cases h), fun _ h => by (cases h), L0.out⟩⟩
  case round =>
    clear L0
    obtain ⟨k, v, L, hk, rfl, rfl, HJ⟩ := hrel
    by_cases hlt : k < l0.length
    · have hk0 : (0 : Int) ≤ (k : Int) := by omega
      have hkl : (k : Int) < (l0.length : Int) := by omega
      have hkh : (k : Int) ≤ 100 := by have := HL.out; omega
      have HLT := Lib.hid hlt
      obtain ⟨bb, off, rfl, hbb, e0, e1, hsl⟩ := (H.out.keep (w' := wr) HJ.out.bl).get k hlt
      have HSL := Lib.hid hsl
      have HBB := Lib.hid hbb
      have HMK := Lib.hid (HME.out _ (List.getElem_mem hlt))
      clear hsl hbb
      generalize hx : l0[k] = x at *
      have HX : Hid (∀ h : k < l0.length, l0[k]'h = x) := fun _ => hx
      clear hx hlt
      obtain ⟨q, xa, xc, es⟩ := x
      dsimp only at e0 e1 HSL HMK
      go_wp2_with fail
      refine (csmall_any q xa xc es _ HSL.out HMK.out).mono ?_
      rintro e w1 ⟨rfl, hb⟩
      have HJ1 := Lib.hid (HJ.out.keep hb)
      have S1 := Lib.hid (HSL.out.keep hb)
      have k0 := (hb.cell (p := ⟨bb, off + k * 2, none⟩) HBB.out).trans e0
      have k1 := (hb.cell (p := ⟨bb, off + k * 2 + 1, none⟩) HBB.out).trans e1
      clear hb HJ HSL HBB e0 e1
      by_cases hs : SmC es
      rotate_left
      · rw [decide_eq_false hs]
        clear hs k0 k1
        have L1 := Lib.hid HJ1.out.bl
        clear HJ1 S1
        go_wp2_with fail
        refine (clive_any _ (HK.out.below L1.out HP.out)).mono ?_
        rintro e vz ⟨rfl, hb⟩
        have LZ := Lib.hid (L1.out.trans (hb.mono L1.out.size))
        clear hb
        go_wp2
        go_ret
        exact ⟨rfl, LZ.out⟩
      rw [decide_eq_true hs]
      have HS40 := Lib.hid hs.2
      clear hs
      go_wp2_with fail
      refine (cown_any q xa xc es _ S1.out (by have := HS40.out; omega)).mono ?_
      rintro e w2 ⟨v2, rfl, hp, hb⟩
      have hown : ∀ b, v.ownBlock = some b → b < w1.heap.size := fun b e => (World.ownsRow.lt HJ1.out.row.row b e).2
      obtain ⟨oa, oc, rfl, ho⟩ := hp.view
      have HJ2 := Lib.hid (HJ1.out.keep hb)
      have O2 := Lib.hid ho
      have HOA : Hid (∀ b off, oa = some ⟨b, off, none⟩ → v.ownBlock ≠ some b ∧ b < w2.heap.size) := fun b off e => by
        have hz := hp.own_blk b (by rw [e]; rfl)
        exact ⟨fun e2 => by have := hown b e2; omega, hz.2⟩
      clear hb hp ho hown HJ1 S1 k0 k1
      have hz := (Below.refl w2.heap.size w2).alloc (Nat.le_refl _) (.cells #[.int .i64 q, .slice oa es.length oc] 32)
      have EB := Lib.hid (Box.new w2 32 #[.int .i64 q, .slice oa es.length oc])
      have HJ3 := Lib.hid (HJ2.out.keep hz)
      have O3 := Lib.hid (O2.out.keep hz)
      have HOA3 : Hid (∀ b off, oa = some ⟨b, off, none⟩ → v.ownBlock ≠ some b ∧ b < (w2.alloc (.cells #[.int .i64 q, .slice oa es.length oc] 32)).heap.size) := fun b off e => ⟨(HOA.out b off e).1, Nat.lt_of_lt_of_le (HOA.out b off e).2 hz.size⟩
      clear hz HJ2 O2 HOA
      go_wp2_with (with_reducible refine wp_bks_push Tryd.underlying46 _ rfl (.tmp 22) (.tmp 28) rfl w.heap.size _ L rfl ?a1 w2.heap.size 1 ⟨q, oa, oc, es⟩ ?a2 ?a3 ?a4 ?a5 ?a6 ?a7 ?a8)
      case a1 => exact HJ3.out.row
      try (case a2 => rfl)
      case a3 => intro i u hi; exact EB.out.cell i u (by simpa [bkL] using hi)
      case a4 => exact O3.out
      case a5 =>
        intro y hy b off e
        rcases List.mem_append.1 hy with h | h
        · exact (HJ3.out.own y h b off e).1
        · rw [List.mem_singleton.1 h] at e
          exact (HOA3.out b off e).1
      case a6 => have h1 := congrArg List.length HJ3.out.map; rw [List.length_map, List.length_map, List.length_take] at h1; have := HL.out; omega
      case a7 => exact HJ3.out.bl.size
      intro v' wA hpv hgr hob
      have HJ4 : Hid (MgJ w l0 (k + 1) v' (L ++ [⟨q, oa, oc, es⟩]) wA) := HJ3.out.push HLT.out (by have e := HX.out HLT.out; rw [e]; have := HS40.out; dsimp only; omega) (by have e := HX.out HLT.out; rw [e]; rfl) HOA3.out hpv hgr (by rw [size_alloc]; exact hob)
      clear hpv hgr hob HJ3 EB O3 HOA3
      go_wp2
      go_roundw
      case rel => exact ⟨k + 1, _, _, HLT.out, by go_num, rfl, HJ4⟩
      case measure => have := HLT.out; simp [RowKit.intOf]; omega
    · obtain rfl : k = l0.length := by omega
      have hmap := HJ.out.map
      rw [List.take_length] at hmap
      have hsm := HJ.out.small
      rw [List.take_length] at hsm
      have HLL : Hid (L.length ≤ 100) := by
        have h1 := congrArg List.length hmap
        rw [List.length_map, List.length_map] at h1
        have := HL.out
        show L.length ≤ 100
        omega
      obtain ⟨la, lc, rfl, hlb⟩ := HJ.out.row.view
      have HMP := Lib.hid hmap
      have HSM := Lib.hid hsm
      have B0 := Lib.hid HJ.out.bl
      have hme := fun W h => cmerge_ok la lc L W h HLL.out
      rw [hmap] at hme
      have hrm := fun W h => crmerge_any x0 c0 l0 W h (by have := HL.out; omega) hsm
      rw [merge_same] at hrm
      have HLM : Hid ((mergeL (l0.map bkM)).length ≤ 512) := by
        show _ ≤ _
        rw [← merge_same]
        exact mrK_len _ _
      generalize mergeL (l0.map bkM) = ml at *
      have HME2 := Lib.hid hme
      have HRM := Lib.hid hrm
      have SB := Lib.hid hlb
      clear hme hrm hlb hmap hsm HJ
      go_wp2_with fail
      refine (HME2.out _ SB.out).mono ?_
      rintro e w1 ⟨v, rfl, hp, hb⟩
      obtain ⟨ma, mc, rfl, hm⟩ := hp.view
      have B1 := Lib.hid (B0.out.trans (hb.mono B0.out.size))
      have M1 := Lib.hid hm
      clear hp hm hb B0 SB HME2
      go_wp2_with fail
      refine (ctold_any ma mc ml _ M1.out (by have := HLM.out; omega)).mono ?_
      rintro e w2 ⟨v, rfl, hp, hb⟩
      obtain ⟨ta, tc, rfl, ht⟩ := hp.view
      have B2 := Lib.hid (B1.out.trans (hb.mono B1.out.size))
      have T2 := Lib.hid ht
      clear hp ht hb B1 M1
      go_wp2_with fail
      refine (HRM.out _ (H.out.keep B2.out)).mono ?_
      rintro e w3 ⟨v, rfl, hp, hb⟩
      obtain ⟨ra, rc, rfl, hr⟩ := hp.view
      have B3 := Lib.hid (B2.out.trans (hb.mono B2.out.size))
      have T3 := Lib.hid (T2.out.keep hb)
      have R3 := Lib.hid hr
      clear hp hr hb B2 T2 HRM
      go_wp2_with fail
      refine (csame_any ta ra tc rc ml ml _ (by have := HLM.out; omega) (by have := HLM.out; omega) T3.out R3.out).mono ?_
      rintro e w4 ⟨rfl, hb⟩
      rw [decide_eq_true rfl]
      have B4 := Lib.hid (B3.out.trans (hb.mono B3.out.size))
      clear hb B3 T3 R3
      go_wp2_with fail
      refine (clive_any _ (HK.out.below B4.out HP.out)).mono ?_
      rintro e vz ⟨rfl, hb⟩
      have LZ := Lib.hid (B4.out.trans (hb.mono B4.out.size))
      clear hb
      go_wp2
      go_ret
      exact ⟨rfl, LZ.out⟩
end Go.Proofs.YtljjcchdhnficaaDoor.clogMerges
