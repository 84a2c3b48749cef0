/-
  Texts put together: Primes, Above, Times.
-/
import Derived.Test.YtljjcchdhnficaaDoorMg22
import Derived.Test.YtljjcchdhnficaaDoorMg21
import Derived.Deep.LoopGhost
namespace Go.Proofs.YtljjcchdhnficaaDoor
open Go.RowKit

theorem mod_test (j p : Nat) : ((2 + (j : Int)) % (p : Int) != 0) = (true && ((j + 2) % p != 0)) := by
  rw [Bool.true_and, show (2 + (j : Int)) = ((j + 2 : Nat) : Int) by omega, ← Int.natCast_emod]
  rw [Bool.eq_iff_iff, bne_iff_ne, bne_iff_ne]
  omega

set_option maxHeartbeats 1000000 in
theorem primes_any (w : World) : Calls Tryd.prog 30 #[.int .i64 64] w fun e w' =>
    ∃ v, e = .returned v ∧ Nums w' w.heap.size v (prK 310) ∧ Below w.heap.size w w' := by
  go_enter Tryd.func30, Tryd.ntmps30
  go_wp2
  go_loopw [3, 4] (fun v i wr => ∃ j : Nat, j ≤ 310 ∧ i = .int .i64 ((2 + j : Nat) : Int) ∧ Hid (Nums wr w.heap.size v (prK j)) ∧ Hid (Below w.heap.size w wr)) (fun _ i _ => 312 - (RowKit.intOf i).toNat)
  case atStart => exact ⟨0, Nat.zero_le _, rfl, Nums.nil _ _, Below.refl _ _⟩
  case round =>
    obtain ⟨j, hj, rfl, HB, HL⟩ := hrel
    obtain ⟨a, cap, rfl, hv⟩ := HB.out.view
    have HV := Lib.hid hv
    have HP := Lib.hid (pr_two j)
    have hsz := HL.out.size
    have HN : Hid (prK (j + 1) = if (prK j).all (fun p => (j + 2) % p != 0) then prK j ++ [j + 2] else prK j) := rfl
    clear hv
    obtain ⟨wo, rfl⟩ : ∃ wo : World, wo = wr := ⟨_, rfl⟩
    by_cases hlt : j < 310
    · have hlen := pr_lt j hlt
      generalize prK j = l at *
      go_wp2
      go_loopw [5, 6] (fun b i wr => ∃ k : Nat, k ≤ l.length ∧ i = .int .i64 k ∧ b = .bool ((l.take k).all (fun p => (j + 2) % p != 0)) ∧ wr = wo) (fun _ i _ => l.length - (RowKit.intOf i).toNat)
      case atStart => exact ⟨0, Nat.zero_le _, rfl, rfl, rfl⟩
      case round =>
        obtain ⟨k, hk, rfl, rfl, rfl⟩ := hrel
        by_cases hk2 : k < l.length
        · obtain ⟨p, hp⟩ : ∃ p, l[k]? = some p := ⟨_, List.getElem?_eq_getElem hk2⟩
          obtain ⟨b, off, rfl, hbl, hcs⟩ := HV.out (by intro h; rw [h] at hk2; simp at hk2)
          have hc : wr.cell? ⟨b, off + k, none⟩ = some (.int .i64 (p : Int)) := hcs k p hp
          have hp2 : 2 ≤ p := HP.out p (List.mem_of_getElem? hp)
          have hs := Lib.hid (all_snoc l k p (j + 2) hp)
          have hm := Lib.hid (mod_test j p)
          clear hp hcs
          cases hb : (l.take k).all (fun q => (j + 2) % q != 0)
          · have Hb := Lib.hid hb
            clear hb
            go_wp2
            go_round
            case rel => exact ⟨k + 1, by omega, by go_num, by rw [hs.out, Hb.out]; exact ⟨rfl, trivial⟩⟩
            case measure => simp [RowKit.intOf]; omega
          · have Hb := Lib.hid hb
            clear hb
            go_wp2
            go_round
            case rel => exact ⟨k + 1, by omega, by go_num, by rw [hs.out, Hb.out]; exact ⟨congrArg Value.bool hm.out, trivial⟩⟩
            case measure => simp [RowKit.intOf]; omega
        · have hkl : k = l.length := by omega
          subst hkl
          rw [List.take_length]
          cases hb : l.all (fun q => (j + 2) % q != 0)
          · have HN2 : Hid (prK (j + 1) = l) := by show _ = _; rw [HN.out, hb]; rfl
            have Hb := Lib.hid hb
            clear hb
            go_wp2
            go_roundw
            case rel => exact ⟨j + 1, by omega, by go_num, by rw [HN2.out]; exact HB, HL⟩
            case measure => simp [RowKit.intOf]; omega
          · have HN2 : Hid (prK (j + 1) = l ++ [j + 2]) := by show _ = _; rw [HN.out, hb]; rfl
            have Hb := Lib.hid hb
            clear hb
            go_wp2_with (at_builtin; refine wp_nums_push _ rfl _ _ rfl w.heap.size _ l rfl (HB.out.alloc _) ⟨wr.heap.size, 0, none⟩ 1 1 [j + 2] rfl rfl ?c1 (by omega) (by simp; omega) ?_)
            case c1 =>
              intro i u hi
              match i, hi with
              | 0, hi => simp at hi; subst hi; simp [Addr.add, nV]; omega
            intro v' w' hb' hl'
            rw [← HN2.out] at hb'
            have HB' := Lib.hid hb'
            have HL' := Lib.hid (HL.out.trans (((Below.refl _ _).alloc (by omega) _).trans hl'))
            clear hb' hl'
            go_wp2
            go_roundw
            case rel => exact ⟨j + 1, by omega, by go_num, HB', HL'⟩
            case measure => simp [RowKit.intOf]; omega
    · have hj310 : j = 310 := by omega
      subst hj310
      have hlen : (prK 310).length = 64 := pr_len
      have Hlen := Lib.hid hlen
      rw [hlen] at HB ⊢
      go_wp2
      go_ret
      exact ⟨_, rfl, HB.out, HL.out⟩
end Go.Proofs.YtljjcchdhnficaaDoor

namespace Go.Proofs.YtljjcchdhnficaaDoor
open Go.RowKit

theorem sl_get {w : World} {a : Option Addr} {l : List Nat} (h : Sl w nV a l) (k : Nat) (hk : k < l.length) : ∃ b off, a = some ⟨b, off, none⟩ ∧ w.cell? ⟨b, off + k, none⟩ = some (.int .i64 (l.getD k 0 : Nat)) := by
  obtain ⟨b, off, e, _, hc⟩ := h (by intro e; rw [e] at hk; simp at hk)
  refine ⟨b, off, e, ?_⟩
  rw [hc k l[k] (List.getElem?_eq_getElem hk), List.getD, List.getElem?_eq_getElem hk]
  rfl

set_option maxHeartbeats 1000000 in
theorem above_any (x y : Option Addr) (cx cy : Nat) (a b : List Nat) (w : World) (ha : Sl w nV x a) (hb : Sl w nV y b) (la : a.length ≤ 1000) (lb : b.length ≤ 1000) :
    Calls Tryd.prog 53 #[.slice x a.length cx, .slice y b.length cy] w fun e w' => e = .returned (.bool (aboveL a b)) ∧ w = w' := by
  have HA := Lib.hid ha
  have HB := Lib.hid hb
  have HM : Hid (aboveL a b = aboveK a b (max a.length b.length)) := rfl
  have hmx : max a.length b.length ≤ 1000 := by omega
  clear ha hb
  go_enter Tryd.func53, Tryd.ntmps53
  go_wp2
  all_goals
    go_loop [5, 6, 7] (fun i _ _ => ∃ k : Nat, k ≤ max a.length b.length ∧ i = .int .i64 ((k : Int) - 1) ∧ Hid (aboveL a b = aboveK a b k)) (fun i _ _ => (RowKit.intOf i + 1).toNat)
    case atStart => exact ⟨max a.length b.length, Nat.le_refl _, by first | (congr 1; omega) | rfl, HM⟩
    case round =>
      clear HM
      obtain ⟨k, hk, rfl, HM⟩ := hrel
      cases k with
      | zero =>
        have hz : aboveL a b = false := HM.out
        have Hz := Lib.hid hz
        clear hz HM
        go_wp2
        go_ret
        exact ⟨ret_bool (by rw [Hz.out]), rfl⟩
      | succ k =>
        have e1 : ((k + 1 : Nat) : Int) - 1 = k := by omega
        rw [e1]
        clear e1
        have HN : Hid (aboveK a b (k + 1) = if a.getD k 0 = b.getD k 0 then aboveK a b k else decide (b.getD k 0 < a.getD k 0)) := rfl
        have ga : k < a.length → ∃ b1 off, x = some ⟨b1, off, none⟩ ∧ w.cell? ⟨b1, off + k, none⟩ = some (.int .i64 (a.getD k 0 : Nat)) := sl_get HA.out k
        have gb : k < b.length → ∃ b1 off, y = some ⟨b1, off, none⟩ ∧ w.cell? ⟨b1, off + k, none⟩ = some (.int .i64 (b.getD k 0 : Nat)) := sl_get HB.out k
        have za : ¬ k < a.length → a.getD k 0 = 0 := fun h => by rw [List.getD, List.getElem?_eq_none (by omega)]; rfl
        have zb : ¬ k < b.length → b.getD k 0 = 0 := fun h => by rw [List.getD, List.getElem?_eq_none (by omega)]; rfl
        generalize a.getD k 0 = da at *
        generalize b.getD k 0 = db at *
        by_cases hka : k < a.length
        · obtain ⟨b1, o1, rfl, hc1⟩ := ga hka
          clear ga za
          by_cases hkb : k < b.length
          · obtain ⟨b2, o2, rfl, hc2⟩ := gb hkb
            clear gb zb
            by_cases he : da = db
            · have HE : Hid (aboveL a b = aboveK a b k) := by show _ = _; rw [HM.out, HN.out, if_pos he]
              have hq : ((da : Int) != (db : Int)) = false := by rw [bne_eq_false_iff_eq]; omega
              have HQ := Lib.hid he
              clear he HM HN
              go_wp2
              go_round
              case rel => exact ⟨k, by omega, by go_num, HE⟩
              case measure => simp [RowKit.intOf]
            · have HE : Hid (aboveL a b = decide (db < da)) := by show _ = _; rw [HM.out, HN.out, if_neg he]
              have hq : ((da : Int) != (db : Int)) = true := by rw [bne_iff_ne]; omega
              clear he HM HN
              go_wp2
              go_ret
              exact ⟨ret_bool (by first | (rw [HE.out]; done) | (rw [HE.out]; simp)), rfl⟩
          · obtain rfl := zb hkb
            clear gb zb
            by_cases he : da = (0 : Nat)
            · have HE : Hid (aboveL a b = aboveK a b k) := by show _ = _; rw [HM.out, HN.out, if_pos he]
              have hq : ((da : Int) != (0 : Int)) = false := by rw [bne_eq_false_iff_eq]; omega
              have HQ := Lib.hid he
              clear he HM HN
              go_wp2
              go_round
              case rel => exact ⟨k, by omega, by go_num, HE⟩
              case measure => simp [RowKit.intOf]
            · have HE : Hid (aboveL a b = decide ((0 : Nat) < da)) := by show _ = _; rw [HM.out, HN.out, if_neg he]
              have hq : ((da : Int) != (0 : Int)) = true := by rw [bne_iff_ne]; omega
              clear he HM HN
              go_wp2
              go_ret
              exact ⟨ret_bool (by first | (rw [HE.out]; done) | (rw [HE.out]; simp)), rfl⟩
        · obtain rfl := za hka
          clear ga za
          by_cases hkb : k < b.length
          · obtain ⟨b2, o2, rfl, hc2⟩ := gb hkb
            clear gb zb
            by_cases he : (0 : Nat) = db
            · have HE : Hid (aboveL a b = aboveK a b k) := by show _ = _; rw [HM.out, HN.out, if_pos he]
              have hq : ((0 : Int) != (db : Int)) = false := by rw [bne_eq_false_iff_eq]; omega
              have HQ := Lib.hid he
              clear he HM HN
              go_wp2
              go_round
              case rel => exact ⟨k, by omega, by go_num, HE⟩
              case measure => simp [RowKit.intOf]
            · have HE : Hid (aboveL a b = decide (db < (0 : Nat))) := by show _ = _; rw [HM.out, HN.out, if_neg he]
              have hq : ((0 : Int) != (db : Int)) = true := by rw [bne_iff_ne]; omega
              clear he HM HN
              go_wp2
              go_ret
              exact ⟨ret_bool (by first | (rw [HE.out]; done) | (rw [HE.out]; simp)), rfl⟩
          · exfalso
            omega
end Go.Proofs.YtljjcchdhnficaaDoor

namespace Go.Proofs.YtljjcchdhnficaaDoor
open Go.RowKit

theorem setD (l : List Nat) (k x j : Nat) : (l.set k x).getD j 0 = if j = k ∧ k < l.length then x else l.getD j 0 := by
  simp only [List.getD, List.getElem?_set]
  by_cases h : k = j
  · subst h
    by_cases hl : k < l.length
    · simp [hl]
    · simp [hl]
  · have h' : ¬ (j = k ∧ k < l.length) := fun e => h e.1.symm
    simp [h, h']

theorem tIn_length (b : List Nat) (x i : Nat) (o : List Nat) : ∀ j, (tIn b x i o j).1.length = o.length
  | 0 => rfl
  | j + 1 => by rw [tIn]; simp [tIn_length b x i o j]
theorem tOut_length (a b : List Nat) : ∀ i, (tOut a b i).length = a.length + b.length
  | 0 => by simp [tOut]
  | i + 1 => by rw [tOut]; simp [tIn_length, tOut_length a b i]

/-- Nothing grows too great. -/
theorem mul_le (A x y : Nat) (hx : x ≤ A) (hy : y ≤ 65535) : x * y ≤ 65535 * A := by
  rw [Nat.mul_comm]
  exact Nat.mul_le_mul hy hx
theorem tIn_bound (b : List Nat) (x i : Nat) (o : List Nat) (A E : Nat) (hA : 65536 ≤ A) (hx : x ≤ A) (hb : ∀ y, b.getD y 0 ≤ 65535) (hE : E ≤ 32 * A) (hE2 : 65535 ≤ E) (ho : ∀ j, o.getD j 0 ≤ E) :
    ∀ j, (∀ k, (tIn b x i o j).1.getD k 0 ≤ E) ∧ (tIn b x i o j).2 ≤ 2 * A
  | 0 => ⟨ho, Nat.zero_le _⟩
  | j + 1 => by
    obtain ⟨h1, h2⟩ := tIn_bound b x i o A E hA hx hb hE hE2 ho j
    rw [tIn]
    simp only
    have hm := mul_le A x (b.getD j 0) hx (hb j)
    have hz := h1 (i + j)
    refine ⟨fun k => ?_, ?_⟩
    · rw [setD]
      split
      · exact Nat.le_trans (Nat.le_of_lt_succ (Nat.mod_lt _ (by decide))) hE2
      · exact h1 k
    · generalize (tIn b x i o j).1.getD (i + j) 0 = z at *
      generalize x * b.getD j 0 = m at *
      omega
theorem tOut_bound (a b : List Nat) (A : Nat) (hA : 65536 ≤ A) (ha : ∀ x, a.getD x 0 ≤ A) (hb : ∀ y, b.getD y 0 ≤ 65535) : ∀ i, i ≤ 15 → ∀ k, (tOut a b i).getD k 0 ≤ 65535 + 2 * A * i
  | 0, _ => fun k => by
    rw [tOut]
    have : (List.replicate (a.length + b.length) 0).getD k 0 = 0 := by
      simp only [List.getD, List.getElem?_replicate]
      split <;> rfl
    omega
  | i + 1, hi => fun k => by
    have ih := tOut_bound a b A hA ha hb i (by omega)
    obtain ⟨h1, h2⟩ := tIn_bound b (a.getD i 0) i (tOut a b i) A (65535 + 2 * A * i) hA (ha i) hb (by have : A * i ≤ A * 14 := Nat.mul_le_mul_left _ (by omega); rw [Nat.mul_assoc]; omega) (by omega) ih b.length
    have e : 2 * A * (i + 1) = 2 * A * i + 2 * A := by rw [Nat.mul_add]; omega
    rw [tOut]
    simp only
    rw [setD]
    split
    · have := h1 (i + b.length); omega
    · have := h1 k; omega

theorem nums_cell {w : World} {base g cap : Nat} {l : List Nat} (h : Nums w base (.slice (some ⟨g, 0, none⟩) l.length cap) l) (k : Nat) (hk : k < l.length) : w.cell? ⟨g, k, none⟩ = some (.int .i64 (l.getD k 0 : Nat)) := by
  rw [World.ownsRow.cellAt h k (by omega), List.getElem?_map, List.getD, List.getElem?_eq_getElem hk]
  rfl
theorem nums_free {w : World} {base g cap : Nat} {l : List Nat} {n : Nat} (h : Nums w base (.slice (some ⟨g, 0, none⟩) n cap) l) (k : Nat) : w.frozen? ⟨g, k, none⟩ = false := by
  rcases h.2 with ⟨h', _⟩ | ⟨g', cap', cur, h', _, hg, _⟩
  · simp at h'
  · simp only [Value.slice.injEq, Option.some.injEq, Addr.mk.injEq, and_true] at h'
    obtain ⟨rfl, _⟩ := h'
    simp [World.frozen?, hg]
theorem nums_set {w : World} {base g cap : Nat} {l : List Nat} {n : Nat} (h : Nums w base (.slice (some ⟨g, 0, none⟩) n cap) l) (hn : l.length = n) (k x : Nat) (_ : k < l.length) {u : Value} (hu : u = nV x) : Nums (w.setCell ⟨g, k, none⟩ u) base (.slice (some ⟨g, 0, none⟩) n cap) (l.set k x) := by
  subst hu hn
  have := (World.ownsRow.stored h k (nV x)).1
  unfold Nums
  rw [List.length_set, List.map_set]
  exact this
theorem made_nums (n : Nat) {w1 : World} {g cap : Nat} (h : w1.ownsRow g 3 1 (.slice (some ⟨g, 0, none⟩) n cap) n (madeCells #[Value.int .i64 0] n).toList) : Nums w1 g (.slice (some ⟨g, 0, none⟩) n cap) (List.replicate n 0) := by
  have e : (madeCells #[Value.int .i64 0] n).toList = (List.replicate n 0).map nV := by
    apply List.ext_getElem
    · simp [size_madeCells]
    · intro i h1 h2
      simp [madeCells, nV, Nat.mod_one]
  unfold Nums
  rw [List.length_replicate, ← e]
  exact h
end Go.Proofs.YtljjcchdhnficaaDoor
