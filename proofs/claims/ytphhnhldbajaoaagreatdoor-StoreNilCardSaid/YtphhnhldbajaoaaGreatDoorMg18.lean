/-
  Texts put together: SpaceOfA, SpaceOf, StE, StF, StG.
-/
import Derived.Test.YtphhnhldbajaoaaGreatDoorMg11
import Derived.Deep.RegionHeld3
import Derived.Deep.QuietTactic
import Derived.BigQuiet
import Derived.Test.YtphhnhldbajaoaaGreatDoorMg17
namespace Go.Proofs.YtphhnhldbajaoaaGreatDoor
open Go.RowKit Go.ChangeShapes Go.WideShapes Go.ChangeAt

/-- One place more. -/
def lastR (acc : List (Int × Int)) : Int × Int := acc.getD (acc.length - 1) (0, 0)
def ofStep (acc : List (Int × Int)) (at' : Int) (is : Bool) : List (Int × Int) :=
  if is = true then acc
  else if 0 < acc.length ∧ (lastR acc).1 + (lastR acc).2 = at' then acc.set (acc.length - 1) ((lastR acc).1, (lastR acc).2 + 1)
  else acc ++ [(at', 1)]
def ofTo (u : List Bool) : Nat → List (Int × Int)
  | 0 => []
  | k + 1 => ofStep (ofTo u k) k (u.getD k true)
def ofL (u : List Bool) : List (Int × Int) := ofTo u u.length
/-- All lie below at'. -/
def LowR (l : List (Int × Int)) (at' : Int) : Prop := ∀ x ∈ l, 0 ≤ x.1 ∧ 1 ≤ x.2 ∧ x.1 + x.2 ≤ at'
theorem last_mem {acc : List (Int × Int)} (h : 0 < acc.length) : lastR acc ∈ acc := by
  unfold lastR
  rw [List.getD, List.getElem?_eq_getElem (by omega)]
  exact List.getElem_mem _
theorem ofStep_low {acc : List (Int × Int)} {k : Nat} {b : Bool} (h : LowR acc k) (hl : acc.length ≤ k) : LowR (ofStep acc k b) ((k + 1 : Nat) : Int) ∧ (ofStep acc k b).length ≤ k + 1 := by
  unfold ofStep
  split
  · exact ⟨fun x hx => by have := h x hx; omega, by omega⟩
  · split
    · next he =>
      refine ⟨fun y hy => ?_, by rw [List.length_set]; omega⟩
      have hm := h _ (last_mem he.1)
      rcases List.mem_or_eq_of_mem_set hy with hy | hy
      · have := h y hy; omega
      · subst hy; simp only; omega
    · refine ⟨fun y hy => ?_, by rw [List.length_append]; simp; omega⟩
      rcases List.mem_append.1 hy with hy | hy
      · have := h y hy; omega
      · rw [List.mem_singleton.1 hy]; simp only; omega
theorem ofTo_low (u : List Bool) : ∀ k : Nat, LowR (ofTo u k) k ∧ (ofTo u k).length ≤ k
  | 0 => ⟨(fun x hx => by cases hx), Nat.le_refl _⟩
  | k + 1 => by
    have ⟨h1, h2⟩ := ofTo_low u k
    exact ofStep_low h1 h2
theorem flat_set (l : List (Int × Int)) : ∀ (i : Nat) (v : Int) (hi : i < l.length), (l.set i (l[i].1, v)).flatMap PrVS = (l.flatMap PrVS).set (i * 2 + 1) (.int .i64 v) := by
  induction l with
  | nil => intro i v hi; simp at hi
  | cons y r ih =>
    intro i v hi
    cases i with
    | zero => simp [PrVS]
    | succ i =>
      have h := ih i v (by simpa using hi)
      simp only [List.set_cons_succ, List.flatMap_cons, List.getElem_cons_succ, h]
      rw [List.set_append_right _ _ (by simp [PrVS]; omega)]
      congr 2
      simp [PrVS]
      omega
theorem PrsS.setN {e : TypeId} {w : World} {base g cap : Nat} {l : List (Int × Int)} (h : PrsS e w base (.slice (some ⟨g, 0, none⟩) l.length cap) l) (i : Nat) (v : Int) (hi : i < l.length) :
    PrsS e (w.setCell ⟨g, i * 2 + 1, none⟩ (.int .i64 v)) base (.slice (some ⟨g, 0, none⟩) l.length cap) (l.set i (l[i].1, v)) := by
  obtain ⟨h1, h2 | ⟨g', cap', cur, he, hb, hh, hc, hm, hs, ht⟩⟩ := h
  · exact absurd h2.1 (by simp)
  · injection he with q1 q2 q3
    injection q1 with q1
    injection q1 with q1
    subst q1 q3
    refine ⟨by rw [flat_set, List.length_set, List.length_set]; exact h1, .inr ⟨g, cap, _, by rw [List.length_set], hb, heap_setCell_same w g (i * 2 + 1) cur e _ hh, by rw [List.length_set]; exact hc, hm, by rw [Array.size_setIfInBounds]; exact hs, ?_⟩⟩
    rw [flat_set, List.length_set, Array.toList_setIfInBounds, List.take_set, ht]
theorem last_at {acc : List (Int × Int)} (h : 0 < acc.length) : acc[acc.length - 1]'(by omega) = lastR acc := by
  unfold lastR
  rw [List.getD, List.getElem?_eq_getElem (by omega)]
  rfl
end Go.Proofs.YtphhnhldbajaoaaGreatDoor

namespace Go.Proofs.YtphhnhldbajaoaaGreatDoor
open Go.RowKit Go.ChangeShapes Go.WideShapes Go.ChangeAt

theorem PrsS.boxed {e : TypeId} {w : World} {base g n cap : Nat} {l : List (Int × Int)} (h : PrsS e w base (.slice (some ⟨g, 0, none⟩) n cap) l) : ∃ cur, Box w g e cur := by
  rcases h.2 with ⟨e0, _⟩ | ⟨g', cap', cur, he, _, hh, _⟩
  · simp at e0
  · injection he with q1 q2 q3
    injection q1 with q1
    injection q1 with q1
    subst q1
    exact ⟨cur, hh⟩
theorem ofStep_t (acc : List (Int × Int)) (k : Int) : ofStep acc k true = acc := by unfold ofStep; rw [if_pos rfl]
theorem ofStep_j {acc : List (Int × Int)} {k : Int} (h : 0 < acc.length) (he : (lastR acc).1 + (lastR acc).2 = k) : ofStep acc k false = acc.set (acc.length - 1) ((lastR acc).1, (lastR acc).2 + 1) := by
  unfold ofStep; rw [if_neg (by simp), if_pos ⟨h, he⟩]
theorem ofStep_n {acc : List (Int × Int)} {k : Int} (h : ¬ (0 < acc.length ∧ (lastR acc).1 + (lastR acc).2 = k)) : ofStep acc k false = acc ++ [(k, 1)] := by
  unfold ofStep; rw [if_neg (by simp), if_neg h]
set_option maxRecDepth 100000 in
set_option maxHeartbeats 2000000 in
theorem spof_any (a : Option Addr) (cap : Nat) (u : List Bool) (w : World) (h : Sl w Value.bool a u) (hl : u.length ≤ 1000) :
    Calls Tryz.prog 59 #[.slice a u.length cap] w fun e w' => ∃ v, e = .returned v ∧ PrsS 139 w' w.heap.size v (ofL u) ∧ Below w.heap.size w w' := by
  have H := Lib.hid h
  clear h
  go_enter Tryz.func59, Tryz.ntmps59
  go_wp2
  go_loopw [3, 9] (fun s i wr => ∃ (k : Nat) (v : Value), k ≤ u.length ∧ i = .int .i64 k ∧ v = s ∧ Hid (PrsS 139 wr w.heap.size v (ofTo u k)) ∧ Hid (Below w.heap.size w wr)) (fun _ i _ => u.length - (intOf i).toNat)
  case atStart => exact ⟨0, _, Nat.zero_le _, rfl, rfl, PrsS.nil _ _ _, Below.refl _ _⟩
  case round =>
    obtain ⟨k, v, hk, rfl, rfl, HP, HL⟩ := hrel
    by_cases hlt : k < u.length
    · obtain ⟨b, off, rfl, hb, hc⟩ := H.out (by intro e; rw [e] at hlt; simp at hlt)
      have q0 : wr.cell? ⟨b, off + k, none⟩ = some (.bool u[k]) := by rw [HL.out.cell (p := ⟨b, off + k, none⟩) hb]; exact hc k _ (List.getElem?_eq_getElem hlt)
      have HST : Hid (ofTo u (k + 1) = ofStep (ofTo u k) k u[k]) := by show _ = _; rw [ofTo]; simp [List.getD, List.getElem?_eq_getElem hlt]
      obtain ⟨hlow, hlen⟩ := ofTo_low u k
      have HLOW := Lib.hid hlow
      have hk0 : (0 : Int) ≤ (k : Int) := by omega
      have hkl : (k : Int) < (u.length : Int) := by omega
      have hkk : (k : Int) ≤ 1000 := by omega
      generalize ofTo u k = acc at *
      generalize u[k] = is at *
      clear hlow hc
      cases is
      · by_cases h0 : acc.length = 0
        · have HS := Lib.hid (ofStep_n (k := (k : Int)) (acc := acc) (by omega))
          have ha0 : acc = [] := List.eq_nil_of_length_eq_zero h0
          obtain ⟨vb, n, cp, hv, hn⟩ : ∃ vb n cp, v = .slice vb n cp ∧ n = 0 := by
            rcases HP.out.view with ⟨rfl, _⟩ | ⟨g, cp, rfl, _⟩
            · exact ⟨_, _, _, rfl, rfl⟩
            · exact ⟨_, _, _, rfl, h0⟩
          subst hn
          subst hv
          have BX := Lib.hid (Box.new wr 139 #[.int .i64 k, .int .i64 1])
          have ha := (Below.refl wr.heap.size wr).alloc (Nat.le_refl _) (.cells #[.int .i64 k, .int .i64 1] 139 (0, 0))
          have HP2 := Lib.hid (HP.out.keep ha)
          have HL2 := Lib.hid (HL.out.trans (ha.mono HL.out.size))
          clear ha HP HL hb ha0
          go_wp2_with (with_reducible refine wp_prs_app Tryz.underlying86 two_S _ rfl (.tmp 37) (.tmp 40) rfl w.heap.size _ acc rfl ?a1 ⟨wr.heap.size, 0, none⟩ 1 [((k : Int), 1)] ?a2 ?a3 ?a4 ?a5 ?a6)
          case a1 => exact HP2.out
          case a2 => rfl
          case a3 => intro j u hj; rw [add_plain, Nat.zero_add]; exact BX.out.cell j u (by simpa [PrVS] using hj)
          case a4 => simp; omega
          case a5 => exact HL2.out.size
          intro v' w2 hp hg
          have HP3 := Lib.hid hp
          have HL3 := Lib.hid (below_grow HL2.out hg HP2.out HL2.out.size)
          clear hp hg HP2 HL2 BX
          go_wp2
          go_roundw
          case rel => exact ⟨k + 1, _, by omega, by go_num, rfl, by show PrsS _ _ _ _ _; rw [HST.out, HS.out]; exact HP3.out, HL3⟩
          case measure => simp [intOf]; omega
        · obtain ⟨j, hj⟩ : ∃ j, acc.length = j + 1 := ⟨acc.length - 1, by omega⟩
          have hla := last_at (acc := acc) (by omega)
          have HLM := Lib.hid (HLOW.out _ (last_mem (acc := acc) (by omega)))
          rcases HP.out.view with ⟨_, h00⟩ | ⟨g, cp, hv, hc1, hc2, hg0, hgl, hcell⟩
          · exact absurd (by rw [h00]; rfl) h0
          rw [hj] at hv
          subst hv
          have hjc := slP_flat hgl hcell
          obtain ⟨b2, o2, e2, _, x0, x1⟩ := hjc.get j (by omega)
          injection e2 with e2
          injection e2 with r1 r2
          subst r1 r2
          have hlj : acc[j]'(by omega) = lastR acc := by
            have : j = acc.length - 1 := by omega
            subst this
            exact hla
          rw [hlj] at x0 x1
          have hsj := @ofStep_j acc (k : Int) (by omega)
          have hsn := @ofStep_n acc (k : Int)
          have hset : ∀ (hx : j < acc.length) (x : Int), acc.set j ((acc[j]'hx).1, x) = acc.set j ((lastR acc).1, x) := fun hx x => by rw [hlj]
          have HJ := Lib.hid hj
          have hjj : acc.length - 1 = j := by omega
          obtain ⟨y, hy⟩ : ∃ y, lastR acc = y := ⟨_, rfl⟩
          rw [hy] at x0 x1 hsj hsn hset
          have hlm := HLM.out
          rw [hy] at hlm
          obtain ⟨xa, xn⟩ := y
          simp only at x0 x1 hlm hsj hsn hset
          obtain ⟨y0, y1, y2⟩ := hlm
          rw [Nat.zero_add] at x0 x1
          rw [hjj] at hsj
          have HSJ := Lib.hid hsj
          have HSN := Lib.hid hsn
          have HSET := Lib.hid hset
          have HY := Lib.hid hy
          have e1 : IntKind.i64.wrap (((j + 1 : Nat) : Int) - 1) = (j : Int) := by rw [IntWalk.i64_in _ ⟨by omega, by omega⟩]; omega
          have e2 : ((j : Int) + 1 - 1) = (j : Int) := by omega
          have e3 : IntKind.i64.wrap ((j : Int) + 1 - 1) = (j : Int) := by rw [IntWalk.i64_in _ ⟨by omega, by omega⟩]; omega
          have e5 : IntKind.i64.wrap (j : Int) = (j : Int) := IntWalk.i64_in _ ⟨by omega, by omega⟩
          have e6 : (j : Int) ≤ 1000 := by omega
          have e7 : (0 : Int) ≤ (j : Int) := by omega
          have y3 : xa ≤ 1000 := by omega
          have y4 : xn ≤ 1000 := by omega
          have hcp : j + 1 ≤ cp := by omega
          clear hsj hsn hset hy hjj hla hlj hj HLM hcell hc2 hjc HLOW h0
          by_cases he : xa + xn = (k : Int)
          · have hq : ((xa + xn) == (k : Int)) = true := by simp [he]
            have HS := Lib.hid (HSJ.out he)
            clear he
            go_wp2_with fail
            refine (spend_any (xa, xn) _ y0 (by simp only; omega) (by simp only; omega) (by simp only; omega)).mono ?_
            rintro e w2 ⟨rfl, hb2⟩
            have HP2 := Lib.hid (HP.out.keep hb2)
            have HL2 := Lib.hid (HL.out.trans (hb2.mono HL.out.size))
            obtain ⟨cur, hcur⟩ := HP2.out.boxed
            have f1 := hcur.free (j * 2 + 1)
            have z1 : w2.cell? ⟨g, j * 2 + 1, none⟩ = some (.int .i64 xn) := by rw [hb2.cell (p := ⟨g, j * 2 + 1, none⟩) hgl]; exact x1
            clear hb2 x0 x1 hcur HP HL hb
            dsimp only
            go_wp2
            go_roundw
            case rel => exact ⟨k + 1, _, by omega, by go_num, rfl, by
              show PrsS _ _ _ _ _
              rw [HST.out, HS.out]
              have h := PrsS.setN (l := acc) (cap := cp) (g := g) (by rw [HJ.out]; exact HP2.out) j (xn + 1) (by have := HJ.out; omega)
              rw [HSET.out, HJ.out] at h
              exact h, HL2.out.setCell (p := ⟨g, j * 2 + 1, none⟩) hg0 _⟩
            case measure => simp [intOf]; omega
          · have hq : ((xa + xn) == (k : Int)) = false := by simp [he]
            have HS := Lib.hid (HSN.out (fun h => he h.2))
            clear he
            go_wp2_with fail
            refine (spend_any (xa, xn) _ y0 (by simp only; omega) (by simp only; omega) (by simp only; omega)).mono ?_
            rintro e w2 ⟨rfl, hb2⟩
            have hp1 := HP.out.keep hb2
            have hl1 := HL.out.trans (hb2.mono HL.out.size)
            have BX := Lib.hid (Box.new w2 139 #[.int .i64 k, .int .i64 1])
            have ha := (Below.refl w2.heap.size w2).alloc (Nat.le_refl _) (.cells #[.int .i64 k, .int .i64 1] 139 (0, 0))
            have HP2 := Lib.hid (hp1.keep ha)
            have HL2 := Lib.hid (hl1.trans (ha.mono hl1.size))
            clear ha HP HL hb hb2 hp1 hl1 x0 x1
            dsimp only
            go_wp2_with (with_reducible refine wp_prs_app Tryz.underlying86 two_S _ rfl (.tmp 37) (.tmp 40) rfl w.heap.size _ acc rfl ?b1 ⟨w2.heap.size, 0, none⟩ 1 [((k : Int), 1)] ?b2 ?b3 ?b4 ?b5 ?b6)
            case b1 => exact HP2.out
            case b2 => rfl
            case b3 => intro j u hj; rw [add_plain, Nat.zero_add]; exact BX.out.cell j u (by simpa [PrVS] using hj)
            case b4 => simp; omega
            case b5 => exact HL2.out.size
            intro v' w2 hp hg
            have HP3 := Lib.hid hp
            have HL3 := Lib.hid (below_grow HL2.out hg HP2.out HL2.out.size)
            clear hp hg HP2 HL2 BX
            go_wp2
            go_roundw
            case rel => exact ⟨k + 1, _, by omega, by go_num, rfl, by show PrsS _ _ _ _ _; rw [HST.out, HS.out]; exact HP3.out, HL3⟩
            case measure => simp [intOf]; omega
      · have HS := Lib.hid (ofStep_t acc (k : Int))
        go_wp2
        go_roundw
        case rel => exact ⟨k + 1, _, by omega, by go_num, rfl, by show PrsS _ _ _ _ _; rw [HST.out, HS.out]; exact HP.out, HL⟩
        case measure => simp [intOf]; omega
    · obtain rfl : k = u.length := by omega
      go_wp2
      go_ret
      exact ⟨_, rfl, HP.out, HL.out⟩
end Go.Proofs.YtphhnhldbajaoaaGreatDoor

namespace Go.Proofs.YtphhnhldbajaoaaGreatDoor
open Go Go.RowKit Go.ChangeShapes Go.WideShapes Go.ChangeAt

set_option maxRecDepth 100000 in
set_option maxHeartbeats 2000000 in
theorem ssettle_nil (v : Value) (t : Int) (w : World) : Calls Tryz.prog 25 #[.pointer none, v, .int .i64 t] w fun e w' => e = .returned (.int .i64 1) ∧ w = w' := by
  go_enter Tryz.func25, Tryz.ntmps25
  go_wp2_with fail
  refine (smade_nil _).mono ?_
  rintro e w1 ⟨rfl, rfl⟩
  go_wp2
  go_ret
  exact ⟨rfl, rfl⟩
def settleOk (d : DevD) (l : List (Int × Int)) (t : Int) : Bool := decide (0 ≤ t) && (decide (t ≤ 1099511627776) && !l.any (nowhS d))
section
variable {B : Nat} {P : List Nat → World → Prop} {s : Nat} {x : StoV} {d : DevD} {w : World}
set_option maxRecDepth 100000 in
set_option maxHeartbeats 4000000 in
theorem ssettle_bad (hP : Fixed P) (h : StoB w s x) (ho : One B P x.db d w) (a : Option Addr) (cap : Nat) (l : List (Int × Int)) (hl : l.length ≤ 1000) (hu : SlP w a l) (t : Int) (hb : settleOk d l t = false) :
    Calls Tryz.prog 25 #[.pointer (some ⟨s, 0, none⟩), .slice a l.length cap, .int .i64 t] w fun e w' => e = .returned (.int .i64 1) ∧ Below w.heap.size w w' := by
  have HM := Lib.hid (smade_any s x w h)
  have HC := Lib.hid (scontains_any a cap l s (nowhS d) w hu hl (now_of hP h ho))
  clear h ho hu
  by_cases h0 : t < 0
  · clear hb HC
    go_enter Tryz.func25, Tryz.ntmps25
    go_wp2_with fail
    refine HM.out.mono ?_
    rintro e w1 ⟨rfl, rfl⟩
    go_wp2
    go_ret
    exact ⟨rfl, Below.refl _ _⟩
  · by_cases h1 : (1099511627776 : Int) < t
    · clear hb HC
      go_enter Tryz.func25, Tryz.ntmps25
      go_wp2_with fail
      refine HM.out.mono ?_
      rintro e w1 ⟨rfl, rfl⟩
      go_wp2
      go_ret
      exact ⟨rfl, Below.refl _ _⟩
    · have HA : Hid (l.any (nowhS d) = true) := by
        unfold settleOk at hb
        rw [decide_eq_true (show (0 : Int) ≤ t by omega), decide_eq_true (show t ≤ 1099511627776 by omega)] at hb
        show _ = _
        cases hh : l.any (nowhS d)
        · rw [hh] at hb; cases hb
        · rfl
      clear hb
      go_enter Tryz.func25, Tryz.ntmps25
      go_wp2_with fail
      refine HM.out.mono ?_
      rintro e w1 ⟨rfl, rfl⟩
      go_wp2_with fail
      refine HC.out.mono ?_
      rintro e w1 ⟨rfl, hb⟩
      rw [HA.out]
      have HB := Lib.hid hb
      clear hb
      go_wp2
      go_ret
      exact ⟨rfl, HB.out⟩
/-- What Settle leaves, as far as device k. -/
def SetS (s : Nat) (x : StoV) (d : DevD) (l : List (Int × Int)) (t : Int) (w : World) (k : Nat) (W : World) : Prop :=
  ∃ v0 v1, StoB W s { x with txg := t, v0 := v0, v1 := v1 } ∧ (1 ≤ k → PrsS 139 W w.heap.size v0 (ofL (takenS x d 0 l))) ∧ (2 ≤ k → PrsS 139 W w.heap.size v1 (ofL (takenS x d 1 l))) ∧ (2 ≤ k → ∀ i, v0.ownBlock = some i → v1.ownBlock ≠ some i) ∧ Chg [s] w W
theorem PrsS.chg {S : List Nat} {e : TypeId} {w w' : World} {base : Nat} {v : Value} {l : List (Int × Int)} (h : PrsS e w base v l) (hc : Chg S w w') (hn : ∀ k ∈ S, k < base) : PrsS e w' base v l := ownsRow_of h fun k hk hlt => hc.block k hlt (fun hm => by have := hn k hm; have := (World.ownsRow.lt h k hk).1; omega)
theorem PrsS.own {e : TypeId} {w : World} {base : Nat} {v : Value} {l : List (Int × Int)} (h : PrsS e w base v l) : ∀ k, v.ownBlock = some k → base ≤ k := by
  intro k hk
  rcases h.2 with ⟨rfl, _⟩ | ⟨g, cap, cur, rfl, hg, _⟩
  · cases hk
  · simp [Value.ownBlock] at hk; omega
theorem taken_len (side : Int) (l : List (Int × Int)) : (takenS x d side l).length = devSize d side := by unfold takenS; rw [setUs_len, tkA_len]
set_option maxRecDepth 100000 in
set_option maxHeartbeats 8000000 in
theorem ssettle_ok (hP : Fixed P) (h : StoB w s x) (hO : ∀ W, Chg [s] w W → One B P x.db d W) (hz : ∀ t, devSize d t ≤ 512) (hsec : -1000000 ≤ x.pol.second ∧ x.pol.second ≤ 1000000) (a : Option Addr) (cap : Nat) (l : List (Int × Int)) (hl : l.length ≤ 1000) (hu : ∀ W, Chg [s] w W → SlP W a l) (t : Int) (hb : settleOk d l t = true) :
    Calls Tryz.prog 25 #[.pointer (some ⟨s, 0, none⟩), .slice a l.length cap, .int .i64 t] w fun e w' => e = .returned (.int .i64 0) ∧ SetS s x d l t w 2 w' := by
  have HM := Lib.hid (smade_any s x w h)
  have HC := Lib.hid (scontains_any a cap l s (nowhS d) w (hu w (Chg.refl _ _)) hl (now_of hP h (hO w (Chg.refl _ _))))
  have HX := Lib.hid h
  have HO := Lib.hid hO
  have HU := Lib.hid hu
  have HZ := Lib.hid hz
  have HL := Lib.hid hl
  have HSE := Lib.hid hsec
  unfold settleOk at hb
  rw [Bool.and_eq_true, Bool.and_eq_true] at hb
  have h0 : ¬ t < 0 := by have := of_decide_eq_true hb.1; omega
  have h1 : ¬ (1099511627776 : Int) < t := by have := of_decide_eq_true hb.2.1; omega
  have HA : Hid (l.any (nowhS d) = false) := by
    show _ = _
    cases hh : l.any (nowhS d)
    · rfl
    · have h5 := hb.2.2; rw [hh] at h5; cases h5
  have HN : Hid (∀ u ∈ l, nowhS d u = false) := fun u hu => by
    have h5 := List.any_eq_false.1 HA.out u hu
    cases hh : nowhS d u
    · rfl
    · exact absurd hh h5
  have HSZ : Hid (s < w.heap.size) := h.lt
  clear h hO hu hz hb hl hsec
  go_enter Tryz.func25, Tryz.ntmps25
  go_wp2_with fail
  refine HM.out.mono ?_
  rintro e w1 ⟨rfl, rfl⟩
  go_wp2_with fail
  refine HC.out.mono ?_
  rintro e w1 ⟨rfl, hb1⟩
  rw [HA.out]
  have HX1 := Lib.hid (HX.out.keep hb1 HX.out.lt)
  have g6 : w1.cell? ⟨s, 6, none⟩ = some (.int .i64 x.txg) := HX1.out.cell 6 _ rfl
  have f6 := HX1.out.free 6
  have HI0 : Hid (SetS s x d l t w 0 (w1.setCell ⟨s, 6, none⟩ (.int .i64 t))) := ⟨x.v0, x.v1, HX1.out.set 6 _, fun h => by omega, fun h => by omega, fun h => by omega, (Chg.of hb1 (Nat.le_refl _)).set s 6 _ (.inl (by simp))⟩
  clear hb1 HM HC
  go_wp2_with fail
  clear g6 f6 HX1
  go_loopw [29] (fun iv wr => ∃ k : Nat, k ≤ 2 ∧ iv = .int .i64 k ∧ Hid (SetS s x d l t w k wr)) (fun iv _ => ((2 : Int) - RowKit.intOf iv).toNat)
  case atStart => exact ⟨0, by omega, rfl, HI0⟩
  case round =>
    clear HI0
    rename_i hkk
    obtain ⟨k, hk, rfl, HI⟩ := hrel
    by_cases hlt : k < 2
    · clear hkk
      have h0k : (0 : Int) ≤ (k : Int) := by omega
      have h1k : (k : Int) < 2 := by omega
      obtain ⟨v0, v1, hx, hp0, hp1, _, hc⟩ := HI.out
      have HXX := Lib.hid hx
      have HP0 := Lib.hid hp0
      have HP1 := Lib.hid hp1
      have HCC := Lib.hid hc
      clear hx hp0 hp1 hc HI
      go_wp2_with fail
      refine wp_region_tree (fun _ => True) 9 (.quiet 0 (.quiet 1 (.quiet 2 (.quiet 3 (.quiet 4 (.quiet 7 (.quiet 8 (.make 5 (.make 6 .nil))))))))) (by kernel_rfl) (by kernel_rfl) trivial ?_
      simp only [List.drop_succ_cons, List.drop_zero]
      iterate 7 (apply wpTr_step rfl; (intro W hS K hK; go_simp; exact hK _ rfl))
      refine wpTr_make rfl (fun K' hK => ?_)
      go_simp
      have HXD := Lib.hid (HXX.out.keep ((Below.refl _ _).drew) HXX.out.lt)
      have HCD : Hid (Chg [s] w wr.drew) := HCC.out.drew
      refine (staken_any (x := { x with txg := t, v0 := v0, v1 := v1 }) hP HXD.out (HO.out _ HCD.out) (k : Int) (by omega) HZ.out a cap l HL.out (HU.out _ HCD.out) HN.out HSE.out).mono ?_
      rintro e w2 ⟨v2, rfl, hb2, hbl2⟩
      obtain ⟨a2, c2, rfl, hs2⟩ := hb2.view
      refine hK _ _ _ (fun _ h => h) trivial ?_
      clear hK K'
      refine wpTr_make rfl (fun K' hK => ?_)
      go_simp
      have htl : (takenS { x with txg := t, v0 := v0, v1 := v1 } d k l).length ≤ 1000 := by rw [taken_len]; have := HZ.out (k : Int); omega
      refine (spof_any a2 c2 _ w2 hs2 htl).mono ?_
      rintro e w3 ⟨v3, rfl, hp3, hbl3⟩
      refine hK _ _ _ (fun _ h => h) trivial ?_
      clear hK K'
      refine wpTr_nil ?_
      obtain ⟨a3, k3, e3, _, _, _⟩ := hp3.slP
      obtain ⟨n3, hn3⟩ : ∃ n3, n3 = (ofL (takenS { x with txg := t, v0 := v0, v1 := v1 } d k l)).length := ⟨_, rfl⟩
      rw [← hn3] at e3
      subst e3
      clear hn3
      have HP3 : Hid (PrsS 139 w3 w2.heap.size (.slice a3 n3 k3) (ofL (takenS x d k l))) := hp3
      have hbl : Below wr.heap.size wr w3 := ((Below.refl _ _).drew.trans hbl2).trans (hbl3.mono hbl2.size)
      have HX3 := Lib.hid (HXX.out.keep hbl HXX.out.lt)
      have HC3 := Lib.hid (HCC.out.trans (Chg.of hbl (Nat.le_refl _)))
      have HP03 : Hid (1 ≤ k → PrsS 139 w3 w.heap.size v0 (ofL (takenS x d 0 l))) := fun h => (HP0.out h).keep hbl
      have HSL : Hid (s < w2.heap.size ∧ w.heap.size ≤ w2.heap.size) := by have h5 := HCC.out.size; have h6 := hbl2.size; have h7 := HSZ.out; exact ⟨by show s < _; have : wr.drew.heap.size = wr.heap.size := rfl; omega, by have : wr.drew.heap.size = wr.heap.size := rfl; omega⟩
      have HDJ : Hid (1 ≤ k → ∀ i, v0.ownBlock = some i → (Value.slice a3 n3 k3).ownBlock ≠ some i) := fun h i hi e => by
        have h1 := (World.ownsRow.lt (HP0.out h) i hi).2
        have h2 := hp3.own i e
        have h3 := hbl2.size
        have h4 : wr.drew.heap.size = wr.heap.size := rfl
        omega
      clear hp3 hbl3 hbl2 hb2 hs2 htl HXX HXD HCC HCD HP0 HP1 hbl
      have hgk : ∃ u, w3.cell? ⟨s, 7 + k, none⟩ = some u := by
        rcases (show k = 0 ∨ k = 1 by omega) with h | h
        · exact ⟨v0, by rw [h]; exact HX3.out.cell 7 _ rfl⟩
        · exact ⟨v1, by rw [h]; exact HX3.out.cell 8 _ rfl⟩
      obtain ⟨u, gk⟩ := hgk
      have fk := HX3.out.free (7 + k)
      have HN2 : Hid (SetS s x d l t w (k + 1) (w3.setCell ⟨s, 7 + k, none⟩ (.slice a3 n3 k3))) := by
        have hc9 : Chg [s] w3 (w3.setCell ⟨s, 7 + k, none⟩ (.slice a3 n3 k3)) := (Chg.refl _ _).set s _ _ (.inl (by simp))
        have hs9 : ∀ i ∈ [s], i < w.heap.size := fun i hi => by rw [List.mem_singleton] at hi; rw [hi]; exact HSZ.out
        have hcc : Chg [s] w (w3.setCell ⟨s, 7 + k, none⟩ (.slice a3 n3 k3)) := HC3.out.trans hc9
        rcases (show k = 0 ∨ k = 1 by omega) with h | h
        · subst h
          exact ⟨.slice a3 n3 k3, v1, HX3.out.set 7 _, fun _ => (HP3.out.base HSL.out.2).chg hc9 hs9, fun h => by omega, fun h => by omega, hcc⟩
        · subst h
          exact ⟨v0, .slice a3 n3 k3, HX3.out.set 8 _, fun _ => (HP03.out (Nat.le_refl _)).chg hc9 hs9, fun _ => (HP3.out.base HSL.out.2).chg hc9 hs9, fun _ => HDJ.out (by omega), hcc⟩
      clear HX3 HC3 HP03 HP3 HSL
      go_wp2_with fail
      go_roundw
      case rel => exact ⟨k + 1, by omega, by go_num, HN2⟩
      case measure => simp [RowKit.intOf]; omega
    · have hk2 : k = 2 := by omega
      have HF : Hid (SetS s x d l t w 2 wr) := by rw [← hk2]; exact HI.out
      clear hk2
      go_wp2
      go_ret
      exact ⟨rfl, HF.out⟩
end
end Go.Proofs.YtphhnhldbajaoaaGreatDoor

namespace Go.Proofs.YtphhnhldbajaoaaGreatDoor
open Go Go.RowKit Go.ChangeShapes Go.WideShapes Go.ChangeAt

def idxN (P : Int → Bool) (l : List Int) : Int := match l.findIdx? P with | some i => (i : Int) | none => -1
theorem idxN_at {P : Int → Bool} {l : List Int} {k : Nat} (h : ∀ x ∈ l.take k, P x = false) (hk : k < l.length) (hp : P l[k] = true) : idxN P l = k := by
  unfold idxN
  have : l.findIdx? P = some k := by
    rw [List.findIdx?_eq_some_iff_getElem]
    refine ⟨hk, hp, fun j hj => ?_⟩
    have := h l[j] (by rw [List.mem_take_iff_getElem]; exact ⟨j, by omega, rfl⟩)
    simp [this]
  rw [this]
theorem idxN_no {P : Int → Bool} {l : List Int} (h : ∀ x ∈ l, P x = false) : idxN P l = -1 := by
  unfold idxN
  have : l.findIdx? P = none := by rw [List.findIdx?_eq_none_iff]; exact h
  rw [this]
theorem idxN_any (P : Int → Bool) (l : List Int) : decide (0 ≤ idxN P l) = l.any P := by
  unfold idxN
  cases h : l.findIdx? P with
  | none =>
    rw [List.findIdx?_eq_none_iff] at h
    have : l.any P = false := by rw [List.any_eq_false]; intro x hx; simp [h x hx]
    rw [this]
    decide
  | some i =>
    rw [List.findIdx?_eq_some_iff_getElem] at h
    obtain ⟨hi, hp, _⟩ := h
    have : l.any P = true := List.any_eq_true.2 ⟨l[i], List.getElem_mem hi, hp⟩
    rw [this]
    simp
theorem stepN_no {P : Int → Bool} {l : List Int} {k : Nat} (h : ∀ x ∈ l.take k, P x = false) (hk : k < l.length) (hp : P l[k] = false) : ∀ x ∈ l.take (k + 1), P x = false := by
  rw [List.take_succ_eq_append_getElem hk]
  intro x hx
  rcases List.mem_append.1 hx with hx | hx
  · exact h x hx
  · rw [List.mem_singleton.1 hx]; exact hp
/-- Is a number no device's? -/
def noneS (x : Int) : Bool := (x != 0) && (x != 1)
set_option maxRecDepth 100000 in
theorem snone_any (x : Int) (w : World) : Calls Tryz.prog 97 #[.int .i64 x] w fun e w' => e = .returned (.bool (noneS x)) ∧ w = w' := by
  have HE : Hid (noneS x = ((x != 0) && (x != 1))) := rfl
  cases h0 : (x != (0 : Int))
  · rw [HE.out, h0]
    go_enter Tryz.func97, Tryz.ntmps97
    go_wp2
    go_ret
    exact ⟨rfl, rfl⟩
  · rw [HE.out, h0]
    go_enter Tryz.func97, Tryz.ntmps97
    go_wp2
    go_ret
    exact ⟨rfl, rfl⟩
theorem Sl.getI {w : World} {a : Option Addr} {l : List Int} (h : Sl w (Value.int .i64) a l) (k : Nat) (hk : k < l.length) : ∃ b off, a = some ⟨b, off, none⟩ ∧ b < w.heap.size ∧ w.cell? ⟨b, off + k, none⟩ = some (.int .i64 l[k]) := by
  obtain ⟨b, off, e, hlt, hc⟩ := h (by intro e; rw [e] at hk; simp at hk)
  exact ⟨b, off, e, hlt, hc k _ (List.getElem?_eq_getElem hk)⟩
set_option maxRecDepth 100000 in
set_option maxHeartbeats 2000000 in
theorem sindexI_any (a : Option Addr) (cap : Nat) (l : List Int) (w : World) (h : Sl w (Value.int .i64) a l) (hl : l.length ≤ 1000) :
    Calls Tryz.prog 130 #[.slice a l.length cap, .func (.func 97) #[] #[]] w fun e w' => e = .returned (.int .i64 (idxN noneS l)) ∧ w = w' := by
  have H := Lib.hid h
  obtain ⟨R, hR⟩ : ∃ R, R = idxN noneS l := ⟨_, rfl⟩
  rw [← hR]
  have HR := Lib.hid hR
  clear h hR
  go_enter Tryz.func130, Tryz.ntmps130
  go_wp2
  go_loopw [5, 8] (fun _ i wr => ∃ k : Nat, k ≤ l.length ∧ i = .int .i64 k ∧ Hid (∀ x ∈ l.take k, noneS x = false) ∧ Hid (w = wr)) (fun _ i _ => l.length - (intOf i).toNat)
  case atStart => exact ⟨0, Nat.zero_le _, rfl, Lib.hid (fun x hx => by simp at hx), rfl⟩
  case round =>
    obtain ⟨k, hk, rfl, HN, HW⟩ := hrel
    have hw := HW.out
    subst hw
    by_cases hlt : k < l.length
    · obtain ⟨b, off, rfl, hb, hc0⟩ := H.out.getI k hlt
      have HS := Lib.hid (fun e => stepN_no HN.out hlt e)
      have HI := Lib.hid (fun e => idxN_at HN.out hlt e)
      generalize l[k] = x at *
      cases hx : noneS x
      · have HY := Lib.hid (HS.out hx)
        have Hx := Lib.hid hx
        clear hx HI
        go_wp2_with fail
        refine (snone_any x _).mono ?_
        rintro e w1 ⟨rfl, rfl⟩
        rw [Hx.out]
        go_wp2
        go_roundw
        case rel => exact ⟨k + 1, by omega, by go_num, HY, by exact trivial⟩
        case measure => simp [intOf]; omega
      · have HY : Hid (R = (k : Int)) := by show _ = _; rw [HR.out]; exact HI.out hx
        have Hx := Lib.hid hx
        clear hx HI HS
        go_wp2_with fail
        refine (snone_any x _).mono ?_
        rintro e w1 ⟨rfl, rfl⟩
        rw [Hx.out]
        go_wp2
        go_ret
        exact ⟨ret_int HY.out.symm, rfl⟩
    · have hkl : k = l.length := by omega
      have HF : Hid (R = -1) := by show _ = _; rw [HR.out]; refine idxN_no ?_; have h5 := HN.out; rw [hkl, List.take_length] at h5; exact h5
      go_wp2
      go_ret
      exact ⟨ret_int HF.out.symm, rfl⟩
set_option maxRecDepth 100000 in
set_option maxHeartbeats 2000000 in
theorem scontainsI_any (a : Option Addr) (cap : Nat) (l : List Int) (w : World) (h : Sl w (Value.int .i64) a l) (hl : l.length ≤ 1000) :
    Calls Tryz.prog 98 #[.slice a l.length cap, .func (.func 97) #[] #[]] w fun e w' => e = .returned (.bool (l.any noneS)) ∧ w = w' := by
  have H := Lib.hid h
  clear h
  go_enter Tryz.func98, Tryz.ntmps98
  go_wp2_with fail
  refine (sindexI_any a cap l _ H.out hl).mono ?_
  rintro e w1 ⟨rfl, rfl⟩
  have HI := Lib.hid (idxN_any noneS l)
  generalize idxN noneS l = i at *
  go_wp2
  go_ret
  exact ⟨ret_bool HI.out, rfl⟩
end Go.Proofs.YtphhnhldbajaoaaGreatDoor

namespace Go.Proofs.YtphhnhldbajaoaaGreatDoor
open Go Go.RowKit Go.ChangeShapes Go.WideShapes Go.ChangeAt

/-- May a block stand on these devices? -/
def holdT (l : List Int) : Bool := if l.length = 2 ∧ l.getD 0 0 = l.getD 1 0 then false else (decide (l.length = 1) || decide (l.length = 2)) && !l.any noneS
set_option maxRecDepth 100000 in
set_option maxHeartbeats 4000000 in
theorem smayhold_any (a : Option Addr) (cap : Nat) (l : List Int) (w : World) (h : Sl w (Value.int .i64) a l) (hl : l.length ≤ 1000) :
    Calls Tryz.prog 62 #[.slice a l.length cap] w fun e w' => e = .returned (.bool (holdT l)) ∧ Below w.heap.size w w' := by
  have HK : Hid (∀ W, Below w.heap.size w W → Sl W (Value.int .i64) a l) := fun W hW hne => by
    obtain ⟨b, off, e, hlt, hc⟩ := h hne
    exact ⟨b, off, e, Nat.lt_of_lt_of_le hlt hW.size, fun i x hx => (hW.cell (p := ⟨b, off + i, none⟩) hlt).trans (hc i x hx)⟩
  have H := Lib.hid h
  obtain ⟨R, hR⟩ : ∃ R, R = holdT l := ⟨_, rfl⟩
  rw [← hR]
  have HR := Lib.hid hR
  have HD : Hid (Below w.heap.size w w.drew) := (Below.refl _ _).drew
  clear h hR
  by_cases h2 : l.length = 2
  · match l, h2 with
    | [p, q], _ =>
      obtain ⟨b, off, rfl, _, k0⟩ := H.out.getI 0 (by simp)
      obtain ⟨b9, off9, e9, _, k1⟩ := H.out.getI 1 (by simp)
      injection e9 with e9
      injection e9 with e9 e8 _
      subst e9 e8
      have k0 : w.cell? ⟨b, off, none⟩ = some (.int .i64 p) := k0
      have k1 : w.cell? ⟨b, off + 1, none⟩ = some (.int .i64 q) := k1
      have e0 : w.drew.cell? ⟨b, off, none⟩ = some (.int .i64 p) := k0
      have e1 : w.drew.cell? ⟨b, off + 1, none⟩ = some (.int .i64 q) := k1
      by_cases hpq : p = q
      · have d1 : (p == q) = true := by simp [hpq]
        have HE : Hid (R = false) := by show _ = _; rw [HR.out]; exact if_pos ⟨rfl, hpq⟩
        clear hpq HR
        go_enter Tryz.func62, Tryz.ntmps62
        go_wp2_with fail
        refine wp_region_tree (fun W => W.cell? ⟨b, off, none⟩ = some (.int .i64 p) ∧ W.cell? ⟨b, off + 1, none⟩ = some (.int .i64 q)) 10 (.quiet 0 (.quiet 1 (.quiet 2 (.quiet 3 (.quiet 4 (.quiet 5 (.quiet 6 (.quiet 7 (.quiet 8 (.quiet 9 .nil)))))))))) (by kernel_rfl) (by kernel_rfl) ⟨e0, e1⟩ ?_
        simp only [List.drop_succ_cons, List.drop_zero]
        iterate 10 (apply wpTr_step rfl; (intro W hS K hK; obtain ⟨y0, y1⟩ := hS; go_simp; exact hK _ rfl))
        refine wpTr_nil ?_
        clear k0 k1 e0 e1
        go_wp2
        go_ret
        rw [HE.out]
        exact ⟨rfl, HD.out⟩
      · have d1 : (p == q) = false := by simp [hpq]
        have HE : Hid (R = !([p, q].any noneS)) := by show _ = _; rw [HR.out]; unfold holdT; rw [if_neg (fun h => hpq h.2)]; rfl
        clear hpq HR
        go_enter Tryz.func62, Tryz.ntmps62
        go_wp2_with fail
        refine wp_region_tree (fun W => W.cell? ⟨b, off, none⟩ = some (.int .i64 p) ∧ W.cell? ⟨b, off + 1, none⟩ = some (.int .i64 q)) 10 (.quiet 0 (.quiet 1 (.quiet 2 (.quiet 3 (.quiet 4 (.quiet 5 (.quiet 6 (.quiet 7 (.quiet 8 (.quiet 9 .nil)))))))))) (by kernel_rfl) (by kernel_rfl) ⟨e0, e1⟩ ?_
        simp only [List.drop_succ_cons, List.drop_zero]
        iterate 10 (apply wpTr_step rfl; (intro W hS K hK; obtain ⟨y0, y1⟩ := hS; go_simp; exact hK _ rfl))
        refine wpTr_nil ?_
        clear k0 k1 e0 e1
        go_wp2_with fail
        refine (scontainsI_any (some ⟨b, off, none⟩) cap [p, q] _ (HK.out _ HD.out) (by simp)).mono ?_
        rintro e w1 ⟨rfl, rfl⟩
        generalize [p, q].any noneS = z at *
        go_wp2
        go_ret
        rw [HE.out]
        exact ⟨rfl, HD.out⟩
  · have n2 : ((l.length : Int) == (2 : Int)) = false := by rw [beq_eq_false_iff_ne]; omega
    by_cases h1 : l.length = 1
    · have n1 : ((l.length : Int) == (1 : Int)) = true := by simp [h1]
      have HE : Hid (R = !(l.any noneS)) := by show _ = _; rw [HR.out]; unfold holdT; rw [if_neg (fun h => h2 h.1), decide_eq_true h1]; rfl
      clear HR h1
      go_enter Tryz.func62, Tryz.ntmps62
      go_wp2_with fail
      refine wp_region_tree (fun _ => True) 10 (.quiet 0 (.quiet 1 (.quiet 2 (.quiet 3 (.quiet 4 (.quiet 5 (.quiet 6 (.quiet 7 (.quiet 8 (.quiet 9 .nil)))))))))) (by kernel_rfl) (by kernel_rfl) trivial ?_
      simp only [List.drop_succ_cons, List.drop_zero]
      iterate 10 (apply wpTr_step rfl; (intro W hS K hK; go_simp; exact hK _ rfl))
      refine wpTr_nil ?_
      go_wp2_with fail
      refine (scontainsI_any a cap l _ (HK.out _ HD.out) hl).mono ?_
      rintro e w1 ⟨rfl, rfl⟩
      generalize l.any noneS = z at *
      go_wp2
      go_ret
      rw [HE.out]
      exact ⟨rfl, HD.out⟩
    · have n1 : ((l.length : Int) == (1 : Int)) = false := by rw [beq_eq_false_iff_ne]; omega
      have HE : Hid (R = false) := by show _ = _; rw [HR.out]; unfold holdT; rw [if_neg (fun h => h2 h.1), decide_eq_false h1, decide_eq_false h2]; rfl
      clear HR h1
      go_enter Tryz.func62, Tryz.ntmps62
      go_wp2_with fail
      refine wp_region_tree (fun _ => True) 10 (.quiet 0 (.quiet 1 (.quiet 2 (.quiet 3 (.quiet 4 (.quiet 5 (.quiet 6 (.quiet 7 (.quiet 8 (.quiet 9 .nil)))))))))) (by kernel_rfl) (by kernel_rfl) trivial ?_
      simp only [List.drop_succ_cons, List.drop_zero]
      iterate 10 (apply wpTr_step rfl; (intro W hS K hK; go_simp; exact hK _ rfl))
      refine wpTr_nil ?_
      go_wp2_with fail
      go_ret
      rw [HE.out]
      exact ⟨rfl, HD.out⟩
end Go.Proofs.YtphhnhldbajaoaaGreatDoor
