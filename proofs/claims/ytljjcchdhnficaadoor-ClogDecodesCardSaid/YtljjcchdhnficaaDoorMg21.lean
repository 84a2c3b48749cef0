/-
  Texts put together: RMost, RPut, RefPut, Text, ShaMath, RefFns.
-/
import Derived.Test.YtljjcchdhnficaaDoorMg0
import Derived.Test.YtljjcchdhnficaaDoorMg1
import Derived.Test.YtljjcchdhnficaaDoorMg5
namespace Go.Proofs.YtljjcchdhnficaaDoor
open Go.RowKit

theorem rmost_any (n : Int) (w : World) : Calls Tryd.prog 50 #[.int .i64 n] w fun e w' => e = .returned (.int .i64 (mostI n)) ∧ w = w' := by
  by_cases h : 1 ≤ n ∧ n ≤ 7
  · have hk : ∃ k : Nat, n = k ∧ 1 ≤ k ∧ k ≤ 7 := ⟨n.toNat, by omega, by omega, by omega⟩
    obtain ⟨k, rfl, hk1, hk7⟩ := hk
    go_enter Tryd.func50, Tryd.ntmps50
    go_wp2
    go_loop [3, 4] (fun n i => ∃ j : Nat, j ≤ k ∧ i = .int .i64 j ∧ n = .int .i64 ((256 : Int) ^ j)) (fun _ i => k - (RowKit.intOf i).toNat)
    case atStart => exact ⟨0, Nat.zero_le _, rfl, rfl⟩
    case round =>
      obtain ⟨j, hj, rfl, rfl⟩ := hrel
      by_cases hlt : j < k
      · have hb := p256 j (by omega)
        have hs : Hid ((256 : Int) ^ j * 256 = (256 : Int) ^ (j + 1)) := (Int.pow_succ 256 j).symm
        go_wp2
        go_round
        case rel => exact ⟨j + 1, by omega, by go_num, by rw [hs.out]⟩
        case measure => simp [RowKit.intOf]; omega
      · have hb := p256' j (by omega)
        have hjk : Hid (j = k) := by show j = k; omega
        go_wp2
        go_ret
        exact ⟨ret_int (by unfold mostI; rw [if_pos (by omega), hjk.out, Int.toNat_natCast]), rfl⟩
  · have e1 : mostI n = -1 := by unfold mostI; rw [if_neg h]
    rw [e1]
    clear e1
    by_cases h1 : n < 1
    · go_enter Tryd.func50, Tryd.ntmps50
      go_wp2
      go_ret
      exact ⟨rfl, rfl⟩
    · have h2 : 7 < n := by omega
      go_enter Tryd.func50, Tryd.ntmps50
      go_wp2
      go_ret
      exact ⟨rfl, rfl⟩
end Go.Proofs.YtljjcchdhnficaaDoor

namespace Go.Proofs.YtljjcchdhnficaaDoor
open Go.RowKit

theorem div_le (n k : Nat) : n / 256 ^ k ≤ n := Nat.div_le_self _ _
theorem div_succ (n k : Nat) : n / 256 ^ k / 256 = n / 256 ^ (k + 1) := by rw [Nat.div_div_eq_div_mul, Nat.pow_succ]

set_option maxRecDepth 100000 in
/-- The reference's Put. -/
theorem rput_yes (n wd : Nat) (w : World) (h1 : 1 ≤ wd) (h7 : wd ≤ 7) (h : (n : Int) ≤ mostI wd) : Calls Tryd.prog 27 #[.int .i64 n, .int .i64 wd] w fun e w' => e = .returned (.string ⟨(leList n wd).toArray⟩) ∧ Below w.heap.size w w' := by
  obtain ⟨i0, hi, hz0, hz1, hz2⟩ := info_parts infoU8
  have hn : n ≤ 72057594037927936 := by
    unfold mostI at h
    rw [if_pos (by omega), Int.toNat_natCast] at h
    have := p256' wd h7
    omega
  go_enter Tryd.func27, Tryd.ntmps27
  go_wp2_with fail
  refine (rmost_any wd _).mono ?_
  rintro e w' ⟨rfl, rfl⟩
  go_wp2
  go_loopw [0, 5, 6] (fun x v i wr => ∃ k : Nat, k ≤ wd ∧ i = .int .i64 k ∧ x = .int .i64 ((n / 256 ^ k : Nat) : Int) ∧ Hid (Buf wr w.heap.size v (leList n k)) ∧ Hid (Below w.heap.size w wr)) (fun _ _ i _ => wd - (RowKit.intOf i).toNat)
  case atStart => exact ⟨0, Nat.zero_le _, rfl, by simp, Buf.nil _ _, Below.refl _ _⟩
  case round =>
    obtain ⟨k, hk, rfl, rfl, HBr, HLr⟩ := hrel
    by_cases hlt : k < wd
    · have hd := div_le n k
      have hsn := Lib.hid (leList_snoc n k)
      have hq := Lib.hid (div_succ n k)
      generalize n / 256 ^ k = q at *
      have hsz := HLr.out.size
      have hl := leList_length n k
      go_wp2_with (at_builtin; refine wp_buf_push _ rfl _ _ rfl w.heap.size _ (leList n k) rfl (HBr.out.alloc _) ⟨wr.heap.size, 0, none⟩ 1 1 [UInt8.ofNat q] rfl rfl ?c1 (by omega) (by simp; omega) ?_)
      case c1 =>
        intro j u hj
        match j, hj with
        | 0, hj => simp at hj; subst hj; simp [Addr.add, byV]
      intro v' w' hb' hl'
      rw [← hsn.out] at hb'
      have HB' := Lib.hid hb'
      have HL' := Lib.hid (HLr.out.trans (((Below.refl _ _).alloc (by omega) _).trans hl'))
      clear hb' hl' hl
      go_wp2
      go_roundw
      case rel => exact ⟨k + 1, by omega, by go_num, by rw [← hq.out]; go_num, HB', HL'⟩
      case measure => simp [RowKit.intOf]; omega
    · have hkk : k = wd := by omega
      subst hkk
      have hc := HBr.out.text
      go_wp2
      go_ret
      exact ⟨rfl, HLr.out⟩
end Go.Proofs.YtljjcchdhnficaaDoor

namespace Go.Proofs.YtljjcchdhnficaaDoor
open Go.RowKit

theorem rput_no (n wd : Int) (w : World) (h : n < 0 ∨ mostI wd < n) : Calls Tryd.prog 27 #[.int .i64 n, .int .i64 wd] w fun e w' => e = .returned (.string (putB n wd)) ∧ w = w' := by
  rw [show putB n wd = ⟨#[]⟩ from if_pos h]
  by_cases h1 : n < 0
  · clear h
    go_enter Tryd.func27, Tryd.ntmps27
    go_wp2
    go_ret
    exact ⟨rfl, rfl⟩
  · have h2 : mostI wd < n := by omega
    clear h
    go_enter Tryd.func27, Tryd.ntmps27
    go_wp2_with fail
    refine (rmost_any wd _).mono ?_
    rintro e w' ⟨rfl, rfl⟩
    go_wp2
    go_ret
    exact ⟨rfl, rfl⟩

theorem rput_any (n wd : Int) (w : World) : Calls Tryd.prog 27 #[.int .i64 n, .int .i64 wd] w fun e w' => e = .returned (.string (putB n wd)) ∧ Below w.heap.size w w' := by
  by_cases h : n < 0 ∨ mostI wd < n
  · exact (rput_no n wd w h).mono fun e w' ⟨he, hw⟩ => ⟨he, by rw [← hw]; exact Below.refl _ _⟩
  · rw [show putB n wd = _ from if_neg h]
    have hk := okW_of n wd (by omega) (by omega)
    obtain ⟨n', rfl⟩ : ∃ k : Nat, n = k := ⟨n.toNat, by omega⟩
    obtain ⟨wd', rfl⟩ : ∃ k : Nat, wd = k := ⟨wd.toNat, by omega⟩
    exact rput_yes n' wd' w (by omega) (by omega) (by omega)

end Go.Proofs.YtljjcchdhnficaaDoor

namespace Go.Proofs.YtljjcchdhnficaaDoor
open Go.RowKit

theorem rtext_any (s : ByteArray) (wd : Int) (w : World) (hs : s.size ≤ 140737488351232) : Calls Tryd.prog 28 #[.string s, .int .i64 wd] w fun e w' => e = .returned (.string (textB s wd)) ∧ Below w.heap.size w w' := by
  by_cases h : mostI wd < s.size
  · rw [show textB s wd = _ from if_pos h]
    go_enter Tryd.func28, Tryd.ntmps28
    go_wp2_with fail
    refine (rmost_any wd _).mono ?_
    rintro e w' ⟨rfl, rfl⟩
    go_wp2
    go_ret
    exact ⟨rfl, Below.refl _ _⟩
  · rw [show textB s wd = _ from if_neg h]
    have hp := putB_size s.size wd
    go_enter Tryd.func28, Tryd.ntmps28
    go_wp2_with fail
    refine (rmost_any wd _).mono ?_
    rintro e w' ⟨rfl, rfl⟩
    go_wp2_with fail
    refine (rput_any s.size wd _).mono ?_
    rintro e w' ⟨rfl, hb⟩
    have Hb := Lib.hid hb
    clear hb
    generalize hx : putB s.size wd = x at *
    have Hx := Lib.hid hx
    clear hx
    go_wp2
    go_ret
    exact ⟨ret_str (by rw [Hx.out]), Hb.out⟩
end Go.Proofs.YtljjcchdhnficaaDoor

namespace Go.Proofs.YtljjcchdhnficaaDoor

theorem byN_list (s : ByteArray) (i : Nat) : byN s i = (s.data.toList.getD i 0).toNat := rfl
theorem byN_rest (s : ByteArray) (a i : Nat) : byN (s.extract a s.size) i = byN s (a + i) := by
  unfold byN
  rw [rest_list, List.getD, List.getD, List.getElem?_drop]
theorem byN_front (s : ByteArray) (n i : Nat) (hi : i < n) : byN (s.extract 0 n) i = byN s i := by
  unfold byN
  rw [ext_list, List.drop_zero, Nat.sub_zero, List.getD, List.getD, List.getElem?_take_of_lt hi]
theorem app_list (a b : ByteArray) : (a ++ b).data.toList = a.data.toList ++ b.data.toList := by simp [ByteArray.data_append]
theorem byN_app (a b : ByteArray) (i : Nat) (hi : i < a.size) : byN (a ++ b) i = byN a i := by
  unfold byN
  rw [app_list, List.getD, List.getD, List.getElem?_append_left (by rw [ba_len]; exact hi)]

theorem be4_congr {s t : ByteArray} {i : Nat} (h : ∀ j, j < 64 → byN s j = byN t j) (hi : i + 3 < 64) : be4 s i = be4 t i := by
  unfold be4
  rw [h i (by omega), h (i + 1) (by omega), h (i + 2) (by omega), h (i + 3) (by omega)]
theorem wk_congr {s t : ByteArray} (h : ∀ j, j < 64 → byN s j = byN t j) : ∀ k, wk s k = wk t k
  | 0 => rfl
  | k + 1 => by
    rw [wk, wk, wk_congr h k]
    unfold wnext
    by_cases hk : k < 16
    · rw [if_pos hk, if_pos hk, be4_congr h (by omega)]
    · rw [if_neg hk, if_neg hk]
theorem absK_congr (h : St) {s t : ByteArray} : ∀ k, (∀ i, i < 64 * k → byN s i = byN t i) → absK h s k = absK h t k
  | 0, _ => rfl
  | k + 1, he => by
    rw [absK, absK, absK_congr h k (fun i hi => he i (by omega)), wk_congr (s := s.extract (64 * k) s.size) (t := t.extract (64 * k) t.size)]
    intro j hj
    rw [byN_rest, byN_rest, he _ (by omega)]
theorem absK_add (h : St) (s : ByteArray) (a : Nat) : ∀ b, absK h s (a + b) = absK (absK h s a) (s.extract (64 * a) s.size) b
  | 0 => rfl
  | b + 1 => by
    rw [← Nat.add_assoc, absK, absK, absK_add h s a b, rest_rest, Nat.mul_add]

theorem front_size (s : ByteArray) : (s.extract 0 (fullN s)).size = fullN s := by
  rw [ByteArray.size_extract]
  have : fullN s ≤ s.size := Nat.sub_le _ _
  omega
theorem fullN_div (s : ByteArray) : fullN s / 64 = s.size / 64 := by unfold fullN; omega
theorem fullN_mul (s : ByteArray) : fullN s = 64 * (s.size / 64) := by unfold fullN; omega
theorem fin1_eq (h : St) (s : ByteArray) : fin1 h s = absK h s (s.size / 64) := by
  unfold fin1
  rw [front_size, fullN_div]
  exact absK_congr h _ fun i hi => byN_front s _ i (by rw [fullN_mul]; exact hi)

/-- What a writer that took the text t holds. -/
structure WrOK (t : ByteArray) (st : St) (r : ByteArray) (n : Nat) : Prop where
  en : n = t.size
  er : r = t.extract (fullN t) t.size
  es : 64 ≤ n → st = absK H0 t (t.size / 64)

theorem WrOK.nil : WrOK ⟨#[]⟩ ⟨0, 0, 0, 0, 0, 0, 0, 0⟩ ⟨#[]⟩ 0 := ⟨rfl, rfl, fun h => by omega⟩

theorem WrOK.now {t r : ByteArray} {st : St} {n : Nat} (h : WrOK t st r n) : nowS st n = absK H0 t (t.size / 64) := by
  unfold nowS
  split
  · have : t.size / 64 = 0 := by have := h.en; omega
    rw [this]
    rfl
  · exact h.es (by omega)

theorem WrOK.rsize {t r : ByteArray} {st : St} {n : Nat} (h : WrOK t st r n) : r.size = t.size % 64 := by
  rw [h.er, ByteArray.size_extract]
  unfold fullN
  omega

theorem WrOK.sum {t r : ByteArray} {st : St} {n : Nat} (h : WrOK t st r n) : sumW st r n = sha t := by
  have hr := h.rsize
  have h0 : fullN r = 0 := by rw [fullN_mul]; omega
  have h1 : fin1 (nowS st n) r = fin1 H0 t := by
    rw [fin1_eq, fin1_eq, h.now]
    have : r.size / 64 = 0 := by omega
    rw [this]
    rfl
  have h2 : lastB r n = lastB t t.size := by
    unfold lastB
    rw [h0, rest_zero, ← h.er, h.en]
  unfold sumW sha finS
  rw [h1, h2]

theorem WrOK.split {t r : ByteArray} {st : St} {n : Nat} (h : WrOK t st r n) (s : ByteArray) : (t ++ s).extract (64 * (t.size / 64)) (t ++ s).size = r ++ s := by
  apply ba_eq
  have hle : 64 * (t.size / 64) ≤ t.data.toList.length := by rw [ba_len]; omega
  rw [rest_list, app_list, app_list, h.er, rest_list, fullN_mul, List.drop_append_of_le_length hle]

theorem WrOK.write {t r : ByteArray} {st : St} {n : Nat} (h : WrOK t st r n) (s : ByteArray) : WrOK (t ++ s) (fin1 (nowS st n) (r ++ s)) (wrR (r ++ s)) (n + s.size) := by
  have hr := h.rsize
  have hz : (t ++ s).size = t.size + s.size := ByteArray.size_append
  have hz2 : (r ++ s).size = r.size + s.size := ByteArray.size_append
  refine ⟨by rw [hz, h.en], ?_, fun _ => ?_⟩
  · unfold wrR
    rw [← h.split s, rest_rest]
    congr 1
    rw [fullN_mul, fullN_mul, h.split s]
    omega
  · have hd : (t ++ s).size / 64 = t.size / 64 + (r ++ s).size / 64 := by omega
    rw [fin1_eq, hd, absK_add, h.split s, h.now]
    congr 1
    exact absK_congr H0 _ fun i hi => (byN_app t s i (by omega)).symm
end Go.Proofs.YtljjcchdhnficaaDoor

namespace Go.Proofs.YtljjcchdhnficaaDoor

def digL (n : Nat) : Nat → List Nat
  | 0 => []
  | k + 1 => digL n k ++ [n / 65536 ^ k % 65536]
def tIn (b : List Nat) (x i : Nat) (o : List Nat) : Nat → List Nat × Nat
  | 0 => (o, 0)
  | j + 1 =>
    match tIn b x i o j with
    | (l, c) => (l.set (i + j) ((l.getD (i + j) 0 + x * b.getD j 0 + c) % 65536), (l.getD (i + j) 0 + x * b.getD j 0 + c) / 65536)
def tOut (a b : List Nat) : Nat → List Nat
  | 0 => List.replicate (a.length + b.length) 0
  | i + 1 =>
    match tIn b (a.getD i 0) i (tOut a b i) b.length with
    | (l, c) => l.set (i + b.length) (l.getD (i + b.length) 0 + c)
def timesL (a b : List Nat) : List Nat := tOut a b a.length
/-- Is one list of digits greater than another one? (Of the digits below k, from the highest down.) -/
def aboveK (a b : List Nat) : Nat → Bool
  | 0 => false
  | k + 1 => if a.getD k 0 = b.getD k 0 then aboveK a b k else decide (b.getD k 0 < a.getD k 0)
def aboveL (a b : List Nat) : Bool := aboveK a b (max a.length b.length)
def goalL (p power : Nat) : List Nat := List.replicate (2 * power) 0 ++ digL p 2
def powL (y power : Nat) : List Nat := if power = 3 then timesL (timesL (digL y 3) (digL y 3)) (digL y 3) else timesL (digL y 3) (digL y 3)
def rootK (p power : Nat) : Nat → Nat
  | 0 => 0
  | k + 1 => if aboveL (powL (rootK p power k + 2 ^ (40 - k)) power) (goalL p power) then rootK p power k else rootK p power k + 2 ^ (40 - k)
def rootL (p power : Nat) : Nat := rootK p power 41 % 4294967296

/-- The primes found behind j numbers from 2 on. -/
def prK : Nat → List Nat
  | 0 => []
  | j + 1 => if (prK j).all (fun p => (j + 2) % p != 0) then prK j ++ [j + 2] else prK j
theorem pr_len : (prK 310).length = 64 := by decide +kernel
theorem pr_less : (List.range 310).all (fun j => decide ((prK j).length < 64)) = true := by decide +kernel
theorem pr_lt (j : Nat) (h : j < 310) : (prK j).length < 64 := by
  have := List.all_eq_true.1 pr_less j (List.mem_range.2 h)
  simpa using this
theorem pr_two : ∀ j, ∀ p ∈ prK j, 2 ≤ p
  | 0 => fun p h => by simp [prK] at h
  | j + 1 => fun p h => by
    rw [prK] at h
    split at h
    · rcases List.mem_append.1 h with h | h
      · exact pr_two j p h
      · rw [List.mem_singleton.1 h]; omega
    · exact pr_two j p h
theorem all_snoc (l : List Nat) (i : Nat) (p : Nat) (k : Nat) (h : l[i]? = some p) : (l.take (i + 1)).all (fun q => k % q != 0) = ((l.take i).all (fun q => k % q != 0) && (k % p != 0)) := by
  obtain ⟨hl, rfl⟩ := List.getElem?_eq_some_iff.1 h
  rw [List.take_succ_eq_append_getElem hl, List.all_append]
  simp
end Go.Proofs.YtljjcchdhnficaaDoor
