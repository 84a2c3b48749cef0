/-
  Texts put together: TimesWalk, Digits.
-/
import Derived.Test.YtljjcchdhnficaaDoorMg24
import Derived.Test.YtljjcchdhnficaaDoorMg22
import Derived.Test.YtljjcchdhnficaaDoorMg21
namespace Go.Proofs.YtljjcchdhnficaaDoor
open Go.RowKit

theorem sl_keep {α : Type} {w w' : World} {f : α → Value} {a : Option Addr} {l : List α} (h : Sl w f a l) (hb : Below w.heap.size w w') : Sl w' f a l := by
  intro hne
  obtain ⟨b, off, e, hl, hc⟩ := h hne
  exact ⟨b, off, e, Nat.lt_of_lt_of_le hl hb.size, fun i x hx => by rw [hb.cell hl]; exact hc i x hx⟩

set_option maxRecDepth 100000 in
set_option maxHeartbeats 2000000 in
theorem times_any (x y : Option Addr) (cx cy : Nat) (a b : List Nat) (A : Nat) (w : World) (ha : Sl w nV x a) (hb : Sl w nV y b) (la1 : 1 ≤ a.length) (la2 : a.length ≤ 15) (lb1 : 1 ≤ b.length) (lb2 : b.length ≤ 15) (hA : 65536 ≤ A) (hA2 : A ≤ 1073741824)
    (hda : ∀ k, a.getD k 0 ≤ A) (hdb : ∀ k, b.getD k 0 ≤ 65535) :
    Calls Tryd.prog 52 #[.slice x a.length cx, .slice y b.length cy] w fun e w' => ∃ v, e = .returned v ∧ Nums w' w.heap.size v (timesL a b) ∧ Below w.heap.size w w' := by
  have HA := Lib.hid ha
  have HB := Lib.hid hb
  have HDA := Lib.hid hda
  have HDB := Lib.hid hdb
  have HTL : Hid (timesL a b = tOut a b a.length) := rfl
  clear ha hb hda hdb
  obtain ⟨i0, hi, hz0, hz1, hz2⟩ := info_parts infoInt
  go_enter Tryd.func52, Tryd.ntmps52
  go_wp2_with (at_make; refine wpList_make_full _ rfl _ _ 66 rfl w.heap.size 3 i0 (.int .i64 0) 1 Tryd.underlying66 hi hz0 hz1 .i64 .i64 ((a.length : Int) + (b.length : Int)) ((a.length : Int) + (b.length : Int)) (a.length + b.length) rfl rfl (by omega) (by omega) (by rw [hz2]; omega) (by unfold maxLen; omega) (Nat.le_refl _) ?_)
  intro w1 hown hg
  have hbuf := made_nums (a.length + b.length) hown
  have hbel : Below w.heap.size w w1 := (Below.refl _ _).grown hg (Nat.le_refl _) (fun k hk => by cases hk)
  have HU := Lib.hid hbuf
  have HL := Lib.hid hbel
  clear hown hg hbuf hbel
  go_wp2
  go_loopw [6] (fun i wr => ∃ k : Nat, k ≤ a.length ∧ i = .int .i64 k ∧ Hid (Nums wr w.heap.size (.slice (some ⟨w.heap.size, 0, none⟩) (a.length + b.length) (a.length + b.length)) (tOut a b k)) ∧ Hid (Below w.heap.size w wr)) (fun i _ => a.length - (RowKit.intOf i).toNat)
  case atStart => exact ⟨0, Nat.zero_le _, rfl, HU, HL⟩
  case round =>
    clear HU HL
    obtain ⟨k, hk, rfl, HU, HL⟩ := hrel
    by_cases hlt : k < a.length
    · have HLN := Lib.hid (tOut_length a b k)
      have HBD := Lib.hid (tOut_bound a b A hA HDA.out HDB.out k (by omega))
      obtain ⟨p, hp⟩ : ∃ p, p = a.getD k 0 := ⟨_, rfl⟩
      have HN : Hid (tOut a b (k + 1) = (tIn b p k (tOut a b k) b.length).1.set (k + b.length) ((tIn b p k (tOut a b k) b.length).1.getD (k + b.length) 0 + (tIn b p k (tOut a b k) b.length).2)) := by rw [hp]; rfl
      have hmul : 2 * A * k ≤ 2 * A * 14 := Nat.mul_le_mul_left _ (by omega)
      have hE : 65535 + 2 * A * k ≤ 32 * A := by omega
      have hAx : p ≤ A := by rw [hp]; exact HDA.out k
      have HIB := Lib.hid (tIn_bound b p k (tOut a b k) A (65535 + 2 * A * k) hA hAx HDB.out hE (by omega) HBD.out)
      have HIL := Lib.hid (tIn_length b p k (tOut a b k))
      obtain ⟨o, ho⟩ : ∃ o, o = tOut a b k := ⟨_, rfl⟩
      rw [← ho] at HN HIB HIL HLN HU
      obtain ⟨E, hEE⟩ : ∃ E, E = 65535 + 2 * A * k := ⟨_, rfl⟩
      rw [← hEE] at HIB hE
      have HP := Lib.hid hp
      clear hEE hmul HBD ho hp
      go_wp2
      go_loopw [7, 8] (fun c j wr => ∃ m : Nat, m ≤ b.length ∧ j = .int .i64 m ∧ c = .int .i64 ((tIn b p k o m).2 : Nat) ∧ Hid (Nums wr w.heap.size (.slice (some ⟨w.heap.size, 0, none⟩) (a.length + b.length) (a.length + b.length)) (tIn b p k o m).1) ∧ Hid (Below w.heap.size w wr)) (fun _ j _ => b.length - (RowKit.intOf j).toNat)
      case atStart => exact ⟨0, Nat.zero_le _, rfl, rfl, HU, HL⟩
      case round =>
        clear HU HL
        obtain ⟨m, hm, rfl, rfl, HU, HL⟩ := hrel
        by_cases hlm : m < b.length
        · have HST : Hid (tIn b p k o (m + 1) = ((tIn b p k o m).1.set (k + m) (((tIn b p k o m).1.getD (k + m) 0 + p * b.getD m 0 + (tIn b p k o m).2) % 65536), ((tIn b p k o m).1.getD (k + m) 0 + p * b.getD m 0 + (tIn b p k o m).2) / 65536)) := rfl
          have hlen : (tIn b p k o m).1.length = a.length + b.length := (HIL.out m).trans HLN.out
          have hbd := HIB.out m
          have hbd1 := hbd.1 (k + m)
          have hbd2 := hbd.2
          obtain ⟨l, c, hlc⟩ : ∃ l c, tIn b p k o m = (l, c) := ⟨_, _, rfl⟩
          rw [hlc] at HU HST hlen hbd1 hbd2 ⊢
          simp only at HU HST hlen hbd1 hbd2 ⊢
          clear hbd hlc
          have hU := HU.out
          have HLEN := Lib.hid hlen
          rw [← hlen] at hU
          have hco := nums_cell hU (k + m) (by omega)
          have hfo := nums_free hU (k + m)
          obtain ⟨b1, o1, rfl, hca⟩ := sl_get (sl_keep HA.out HL.out) k hlt
          obtain ⟨b2, o2, rfl, hcb⟩ := sl_get (sl_keep HB.out HL.out) m hlm
          rw [← HP.out] at hca
          have hml := mul_le A p (b.getD m 0) hAx (HDB.out m)
          generalize b.getD m 0 = q at *
          generalize l.getD (k + m) 0 = z at *
          have e1 : (p : Int) * (q : Int) = ((p * q : Nat) : Int) := (Int.natCast_mul p q).symm
          generalize hpq : p * q = r at *
          have HPQ := Lib.hid hpq
          clear hpq hU hlen
          have hcd : wr.drew.cell? ⟨w.heap.size, k + m, none⟩ = some (.int .i64 (z : Int)) := hco
          have hfd : wr.drew.frozen? ⟨w.heap.size, k + m, none⟩ = false := hfo
          go_wp2_with fail
          go_region
          go_wp2
          refine ⟨⟨m + 1, by omega, by go_num, ?_, ?_, HL.out.drew.trans ((Below.refl _ _).setCell (by simp) _)⟩, by simp [RowKit.intOf]; omega⟩
          · rw [HST.out]; simp
          · rw [HST.out]
            exact nums_set HU.out HLEN.out (k + m) ((z + r + c) % 65536) (by rw [HLEN.out]; omega) (by simp [nV])
        · have hmb : m = b.length := by omega
          subst hmb
          have hlen : (tIn b p k o b.length).1.length = a.length + b.length := (HIL.out b.length).trans HLN.out
          have hbd := HIB.out b.length
          have hbd1 := hbd.1 (k + b.length)
          have hbd2 := hbd.2
          obtain ⟨l, c, hlc⟩ : ∃ l c, tIn b p k o b.length = (l, c) := ⟨_, _, rfl⟩
          rw [hlc] at HU HN hlen hbd1 hbd2 ⊢
          simp only at HU HN hlen hbd1 hbd2 ⊢
          clear hbd hlc
          have hU := HU.out
          have HLEN := Lib.hid hlen
          rw [← hlen] at hU
          have hco := nums_cell hU (k + b.length) (by omega)
          have hfo := nums_free hU (k + b.length)
          generalize l.getD (k + b.length) 0 = z at *
          clear hU hlen hlm hm
          go_wp2
          refine ⟨⟨k + 1, by omega, by go_num, ?_, HL.out.trans ((Below.refl _ _).setCell (by simp) _)⟩, by simp [RowKit.intOf]; omega⟩
          rw [HN.out]
          exact nums_set HU.out HLEN.out (k + b.length) (z + c) (by rw [HLEN.out]; omega) (by simp [nV])
    · have hka : k = a.length := by omega
      subst hka
      go_wp2
      go_ret
      exact ⟨_, rfl, by rw [HTL.out]; exact HU.out, HL.out⟩
end Go.Proofs.YtljjcchdhnficaaDoor

namespace Go.Proofs.YtljjcchdhnficaaDoor
open Go.RowKit

theorem digL_length (n : Nat) : ∀ k, (digL n k).length = k
  | 0 => rfl
  | k + 1 => by simp [digL, digL_length n k]

theorem digits_any (n many : Nat) (w : World) (hn : n ≤ 4503599627370496) (hm : many ≤ 1000) : Calls Tryd.prog 51 #[.int .i64 n, .int .i64 many] w fun e w' =>
    ∃ v, e = .returned v ∧ Nums w' w.heap.size v (digL n many) ∧ Below w.heap.size w w' := by
  go_enter Tryd.func51, Tryd.ntmps51
  go_wp2
  go_loopw [0, 5, 6] (fun x v i wr => ∃ k : Nat, k ≤ many ∧ i = .int .i64 k ∧ x = .int .i64 ((n / 65536 ^ k : Nat) : Int) ∧ Hid (Nums wr w.heap.size v (digL n k)) ∧ Hid (Below w.heap.size w wr)) (fun _ _ i _ => many - (RowKit.intOf i).toNat)
  case atStart => exact ⟨0, Nat.zero_le _, rfl, by simp, Nums.nil _ _, Below.refl _ _⟩
  case round =>
    obtain ⟨k, hk, rfl, rfl, HBr, HLr⟩ := hrel
    by_cases hlt : k < many
    · have hd : n / 65536 ^ k ≤ n := Nat.div_le_self _ _
      have hsn : Hid (digL n (k + 1) = digL n k ++ [n / 65536 ^ k % 65536]) := rfl
      have hq : Hid (n / 65536 ^ k / 65536 = n / 65536 ^ (k + 1)) := by show _ = _; rw [Nat.div_div_eq_div_mul, Nat.pow_succ]
      generalize n / 65536 ^ k = q at *
      have hsz := HLr.out.size
      have hl := digL_length n k
      go_wp2_with (at_builtin; refine wp_nums_push _ rfl _ _ rfl w.heap.size _ (digL n k) rfl (HBr.out.alloc _) ⟨wr.heap.size, 0, none⟩ 1 1 [q % 65536] rfl rfl ?c1 (by omega) (by simp; omega) ?_)
      case c1 =>
        intro j u hj
        match j, hj with
        | 0, hj => simp at hj; subst hj; simp [Addr.add, nV]
      intro v' w' hb' hl'
      rw [← hsn.out] at hb'
      have HB' := Lib.hid hb'
      have HL' := Lib.hid (HLr.out.trans (((Below.refl _ _).alloc (by omega) _).trans hl'))
      clear hb' hl' hl
      go_wp2
      go_roundw
      case rel => exact ⟨k + 1, by omega, by go_num, by rw [← hq.out]; go_num, HB', HL'⟩
      case measure => simp [RowKit.intOf]; omega
    · have hkk : k = many := by omega
      subst hkk
      go_wp2
      go_ret
      exact ⟨_, rfl, HBr.out, HLr.out⟩
end Go.Proofs.YtljjcchdhnficaaDoor
