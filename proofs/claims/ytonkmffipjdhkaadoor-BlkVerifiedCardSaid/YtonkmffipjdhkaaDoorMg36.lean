/-
  Texts put together: ShaMath, RefFns, RefMath, OfMath.
-/
import Derived.Test.YtonkmffipjdhkaaDoorShaPlain
namespace Go.Proofs.YtonkmffipjdhkaaDoor

theorem byN_list (s : ByteArray) (i : Nat) : byN s i = (s.data.toList.getD i 0).toNat := rfl
theorem byN_rest (s : ByteArray) (a i : Nat) : byN (s.extract a s.size) i = byN s (a + i) := by
  unfold byN
  rw [rest_list, List.getD, List.getD, List.getElem?_drop]
theorem byN_front (s : ByteArray) (n i : Nat) (hi : i < n) : byN (s.extract 0 n) i = byN s i := by
  unfold byN
  rw [ext_list, List.drop_zero, Nat.sub_zero, List.getD, List.getD, List.getElem?_take_of_lt hi]
theorem app_list (a b : ByteArray) : (a ++ b).data.toList = a.data.toList ++ b.data.toList := by simp [ByteArray.data_append]
theorem byN_app (a b : ByteArray) (i : Nat) (hi : i < a.size) : byN (a ++ b) i = byN a i := by
  unfold byN
  rw [app_list, List.getD, List.getD, List.getElem?_append_left (by rw [ba_len]; exact hi)]

theorem be4_congr {s t : ByteArray} {i : Nat} (h : ∀ j, j < 64 → byN s j = byN t j) (hi : i + 3 < 64) : be4 s i = be4 t i := by
  unfold be4
  rw [h i (by omega), h (i + 1) (by omega), h (i + 2) (by omega), h (i + 3) (by omega)]
theorem wk_congr {s t : ByteArray} (h : ∀ j, j < 64 → byN s j = byN t j) : ∀ k, wk s k = wk t k
  | 0 => rfl
  | k + 1 => by
    rw [wk, wk, wk_congr h k]
    unfold wnext
    by_cases hk : k < 16
    · rw [if_pos hk, if_pos hk, be4_congr h (by omega)]
    · rw [if_neg hk, if_neg hk]
theorem absK_congr (h : St) {s t : ByteArray} : ∀ k, (∀ i, i < 64 * k → byN s i = byN t i) → absK h s k = absK h t k
  | 0, _ => rfl
  | k + 1, he => by
    rw [absK, absK, absK_congr h k (fun i hi => he i (by omega)), wk_congr (s := s.extract (64 * k) s.size) (t := t.extract (64 * k) t.size)]
    intro j hj
    rw [byN_rest, byN_rest, he _ (by omega)]
theorem absK_add (h : St) (s : ByteArray) (a : Nat) : ∀ b, absK h s (a + b) = absK (absK h s a) (s.extract (64 * a) s.size) b
  | 0 => rfl
  | b + 1 => by
    rw [← Nat.add_assoc, absK, absK, absK_add h s a b, rest_rest, Nat.mul_add]

theorem front_size (s : ByteArray) : (s.extract 0 (fullN s)).size = fullN s := by
  rw [ByteArray.size_extract]
  have : fullN s ≤ s.size := Nat.sub_le _ _
  omega
theorem fullN_div (s : ByteArray) : fullN s / 64 = s.size / 64 := by unfold fullN; omega
theorem fullN_mul (s : ByteArray) : fullN s = 64 * (s.size / 64) := by unfold fullN; omega
theorem fin1_eq (h : St) (s : ByteArray) : fin1 h s = absK h s (s.size / 64) := by
  unfold fin1
  rw [front_size, fullN_div]
  exact absK_congr h _ fun i hi => byN_front s _ i (by rw [fullN_mul]; exact hi)

/-- What a writer that took the text t holds. -/
structure WrOK (t : ByteArray) (st : St) (r : ByteArray) (n : Nat) : Prop where
  en : n = t.size
  er : r = t.extract (fullN t) t.size
  es : 64 ≤ n → st = absK H0 t (t.size / 64)

theorem WrOK.nil : WrOK ⟨#[]⟩ ⟨0, 0, 0, 0, 0, 0, 0, 0⟩ ⟨#[]⟩ 0 := ⟨rfl, rfl, fun h => by omega⟩

theorem WrOK.now {t r : ByteArray} {st : St} {n : Nat} (h : WrOK t st r n) : nowS st n = absK H0 t (t.size / 64) := by
  unfold nowS
  split
  · have : t.size / 64 = 0 := by have := h.en; omega
    rw [this]
    rfl
  · exact h.es (by omega)

theorem WrOK.rsize {t r : ByteArray} {st : St} {n : Nat} (h : WrOK t st r n) : r.size = t.size % 64 := by
  rw [h.er, ByteArray.size_extract]
  unfold fullN
  omega

theorem WrOK.sum {t r : ByteArray} {st : St} {n : Nat} (h : WrOK t st r n) : sumW st r n = sha t := by
  have hr := h.rsize
  have h0 : fullN r = 0 := by rw [fullN_mul]; omega
  have h1 : fin1 (nowS st n) r = fin1 H0 t := by
    rw [fin1_eq, fin1_eq, h.now]
    have : r.size / 64 = 0 := by omega
    rw [this]
    rfl
  have h2 : lastB r n = lastB t t.size := by
    unfold lastB
    rw [h0, rest_zero, ← h.er, h.en]
  unfold sumW sha finS
  rw [h1, h2]

theorem WrOK.split {t r : ByteArray} {st : St} {n : Nat} (h : WrOK t st r n) (s : ByteArray) : (t ++ s).extract (64 * (t.size / 64)) (t ++ s).size = r ++ s := by
  apply ba_eq
  have hle : 64 * (t.size / 64) ≤ t.data.toList.length := by rw [ba_len]; omega
  rw [rest_list, app_list, app_list, h.er, rest_list, fullN_mul, List.drop_append_of_le_length hle]

theorem WrOK.write {t r : ByteArray} {st : St} {n : Nat} (h : WrOK t st r n) (s : ByteArray) : WrOK (t ++ s) (fin1 (nowS st n) (r ++ s)) (wrR (r ++ s)) (n + s.size) := by
  have hr := h.rsize
  have hz : (t ++ s).size = t.size + s.size := ByteArray.size_append
  have hz2 : (r ++ s).size = r.size + s.size := ByteArray.size_append
  refine ⟨by rw [hz, h.en], ?_, fun _ => ?_⟩
  · unfold wrR
    rw [← h.split s, rest_rest]
    congr 1
    rw [fullN_mul, fullN_mul, h.split s]
    omega
  · have hd : (t ++ s).size / 64 = t.size / 64 + (r ++ s).size / 64 := by omega
    rw [fin1_eq, hd, absK_add, h.split s, h.now]
    congr 1
    exact absK_congr H0 _ fun i hi => (byN_app t s i (by omega)).symm
end Go.Proofs.YtonkmffipjdhkaaDoor

namespace Go.Proofs.YtonkmffipjdhkaaDoor

def digL (n : Nat) : Nat → List Nat
  | 0 => []
  | k + 1 => digL n k ++ [n / 65536 ^ k % 65536]
def tIn (b : List Nat) (x i : Nat) (o : List Nat) : Nat → List Nat × Nat
  | 0 => (o, 0)
  | j + 1 =>
    match tIn b x i o j with
    | (l, c) => (l.set (i + j) ((l.getD (i + j) 0 + x * b.getD j 0 + c) % 65536), (l.getD (i + j) 0 + x * b.getD j 0 + c) / 65536)
def tOut (a b : List Nat) : Nat → List Nat
  | 0 => List.replicate (a.length + b.length) 0
  | i + 1 =>
    match tIn b (a.getD i 0) i (tOut a b i) b.length with
    | (l, c) => l.set (i + b.length) (l.getD (i + b.length) 0 + c)
def timesL (a b : List Nat) : List Nat := tOut a b a.length
/-- Is one list of digits greater than another one? (Of the digits below k, from the highest down.) -/
def aboveK (a b : List Nat) : Nat → Bool
  | 0 => false
  | k + 1 => if a.getD k 0 = b.getD k 0 then aboveK a b k else decide (b.getD k 0 < a.getD k 0)
def aboveL (a b : List Nat) : Bool := aboveK a b (max a.length b.length)
def goalL (p power : Nat) : List Nat := List.replicate (2 * power) 0 ++ digL p 2
def powL (y power : Nat) : List Nat := if power = 3 then timesL (timesL (digL y 3) (digL y 3)) (digL y 3) else timesL (digL y 3) (digL y 3)
def rootK (p power : Nat) : Nat → Nat
  | 0 => 0
  | k + 1 => if aboveL (powL (rootK p power k + 2 ^ (40 - k)) power) (goalL p power) then rootK p power k else rootK p power k + 2 ^ (40 - k)
def rootL (p power : Nat) : Nat := rootK p power 41 % 4294967296

/-- The primes found behind j numbers from 2 on. -/
def prK : Nat → List Nat
  | 0 => []
  | j + 1 => if (prK j).all (fun p => (j + 2) % p != 0) then prK j ++ [j + 2] else prK j
theorem pr_len : (prK 310).length = 64 := by decide +kernel
theorem pr_less : (List.range 310).all (fun j => decide ((prK j).length < 64)) = true := by decide +kernel
theorem pr_lt (j : Nat) (h : j < 310) : (prK j).length < 64 := by
  have := List.all_eq_true.1 pr_less j (List.mem_range.2 h)
  simpa using this
theorem pr_two : ∀ j, ∀ p ∈ prK j, 2 ≤ p
  | 0 => fun p h => by simp [prK] at h
  | j + 1 => fun p h => by
    rw [prK] at h
    split at h
    · rcases List.mem_append.1 h with h | h
      · exact pr_two j p h
      · rw [List.mem_singleton.1 h]; omega
    · exact pr_two j p h
theorem all_snoc (l : List Nat) (i : Nat) (p : Nat) (k : Nat) (h : l[i]? = some p) : (l.take (i + 1)).all (fun q => k % q != 0) = ((l.take i).all (fun q => k % q != 0) && (k % p != 0)) := by
  obtain ⟨hl, rfl⟩ := List.getElem?_eq_some_iff.1 h
  rw [List.take_succ_eq_append_getElem hl, List.all_append]
  simp
end Go.Proofs.YtonkmffipjdhkaaDoor

namespace Go.Proofs.YtonkmffipjdhkaaDoor

theorem pr_list : prK 310 = [2, 3, 5, 7, 11, 13, 17, 19, 23, 29, 31, 37, 41, 43, 47, 53, 59, 61, 67, 71, 73, 79, 83, 89, 97, 101, 103, 107, 109, 113, 127, 131, 137, 139, 149, 151, 157, 163, 167, 173, 179, 181, 191, 193, 197, 199, 211, 223, 227, 229, 233, 239, 241, 251, 257, 263, 269, 271, 277, 281, 283, 293, 307, 311] := by decide +kernel
theorem r3_2 : rootL 2 3 = 1116352408 := by decide +kernel
theorem r3_3 : rootL 3 3 = 1899447441 := by decide +kernel
theorem r3_5 : rootL 5 3 = 3049323471 := by decide +kernel
theorem r3_7 : rootL 7 3 = 3921009573 := by decide +kernel
theorem r3_11 : rootL 11 3 = 961987163 := by decide +kernel
theorem r3_13 : rootL 13 3 = 1508970993 := by decide +kernel
theorem r3_17 : rootL 17 3 = 2453635748 := by decide +kernel
theorem r3_19 : rootL 19 3 = 2870763221 := by decide +kernel
theorem r3_23 : rootL 23 3 = 3624381080 := by decide +kernel
theorem r3_29 : rootL 29 3 = 310598401 := by decide +kernel
theorem r3_31 : rootL 31 3 = 607225278 := by decide +kernel
theorem r3_37 : rootL 37 3 = 1426881987 := by decide +kernel
theorem r3_41 : rootL 41 3 = 1925078388 := by decide +kernel
theorem r3_43 : rootL 43 3 = 2162078206 := by decide +kernel
theorem r3_47 : rootL 47 3 = 2614888103 := by decide +kernel
theorem r3_53 : rootL 53 3 = 3248222580 := by decide +kernel
theorem r3_59 : rootL 59 3 = 3835390401 := by decide +kernel
theorem r3_61 : rootL 61 3 = 4022224774 := by decide +kernel
theorem r3_67 : rootL 67 3 = 264347078 := by decide +kernel
theorem r3_71 : rootL 71 3 = 604807628 := by decide +kernel
theorem r3_73 : rootL 73 3 = 770255983 := by decide +kernel
theorem r3_79 : rootL 79 3 = 1249150122 := by decide +kernel
theorem r3_83 : rootL 83 3 = 1555081692 := by decide +kernel
theorem r3_89 : rootL 89 3 = 1996064986 := by decide +kernel
theorem r3_97 : rootL 97 3 = 2554220882 := by decide +kernel
theorem r3_101 : rootL 101 3 = 2821834349 := by decide +kernel
theorem r3_103 : rootL 103 3 = 2952996808 := by decide +kernel
theorem r3_107 : rootL 107 3 = 3210313671 := by decide +kernel
theorem r3_109 : rootL 109 3 = 3336571891 := by decide +kernel
theorem r3_113 : rootL 113 3 = 3584528711 := by decide +kernel
theorem r3_127 : rootL 127 3 = 113926993 := by decide +kernel
theorem r3_131 : rootL 131 3 = 338241895 := by decide +kernel
theorem r3_137 : rootL 137 3 = 666307205 := by decide +kernel
theorem r3_139 : rootL 139 3 = 773529912 := by decide +kernel
theorem r3_149 : rootL 149 3 = 1294757372 := by decide +kernel
theorem r3_151 : rootL 151 3 = 1396182291 := by decide +kernel
theorem r3_157 : rootL 157 3 = 1695183700 := by decide +kernel
theorem r3_163 : rootL 163 3 = 1986661051 := by decide +kernel
theorem r3_167 : rootL 167 3 = 2177026350 := by decide +kernel
theorem r3_173 : rootL 173 3 = 2456956037 := by decide +kernel
theorem r3_179 : rootL 179 3 = 2730485921 := by decide +kernel
theorem r3_181 : rootL 181 3 = 2820302411 := by decide +kernel
theorem r3_191 : rootL 191 3 = 3259730800 := by decide +kernel
theorem r3_193 : rootL 193 3 = 3345764771 := by decide +kernel
theorem r3_197 : rootL 197 3 = 3516065817 := by decide +kernel
theorem r3_199 : rootL 199 3 = 3600352804 := by decide +kernel
theorem r3_211 : rootL 211 3 = 4094571909 := by decide +kernel
theorem r3_223 : rootL 223 3 = 275423344 := by decide +kernel
theorem r3_227 : rootL 227 3 = 430227734 := by decide +kernel
theorem r3_229 : rootL 229 3 = 506948616 := by decide +kernel
theorem r3_233 : rootL 233 3 = 659060556 := by decide +kernel
theorem r3_239 : rootL 239 3 = 883997877 := by decide +kernel
theorem r3_241 : rootL 241 3 = 958139571 := by decide +kernel
theorem r3_251 : rootL 251 3 = 1322822218 := by decide +kernel
theorem r3_257 : rootL 257 3 = 1537002063 := by decide +kernel
theorem r3_263 : rootL 263 3 = 1747873779 := by decide +kernel
theorem r3_269 : rootL 269 3 = 1955562222 := by decide +kernel
theorem r3_271 : rootL 271 3 = 2024104815 := by decide +kernel
theorem r3_277 : rootL 277 3 = 2227730452 := by decide +kernel
theorem r3_281 : rootL 281 3 = 2361852424 := by decide +kernel
theorem r3_283 : rootL 283 3 = 2428436474 := by decide +kernel
theorem r3_293 : rootL 293 3 = 2756734187 := by decide +kernel
theorem r3_307 : rootL 307 3 = 3204031479 := by decide +kernel
theorem r3_311 : rootL 311 3 = 3329325298 := by decide +kernel
theorem r2_2 : rootL 2 2 = 1779033703 := by decide +kernel
theorem r2_3 : rootL 3 2 = 3144134277 := by decide +kernel
theorem r2_5 : rootL 5 2 = 1013904242 := by decide +kernel
theorem r2_7 : rootL 7 2 = 2773480762 := by decide +kernel
theorem r2_11 : rootL 11 2 = 1359893119 := by decide +kernel
theorem r2_13 : rootL 13 2 = 2600822924 := by decide +kernel
theorem r2_17 : rootL 17 2 = 528734635 := by decide +kernel
theorem r2_19 : rootL 19 2 = 1541459225 := by decide +kernel
theorem roots3 : (prK 310).map (rootL · 3) = kTab := by
  rw [pr_list]
  simp only [List.map_cons, List.map_nil, r3_2, r3_3, r3_5, r3_7, r3_11, r3_13, r3_17, r3_19, r3_23, r3_29, r3_31, r3_37, r3_41, r3_43, r3_47, r3_53, r3_59, r3_61, r3_67, r3_71, r3_73, r3_79, r3_83, r3_89, r3_97, r3_101, r3_103, r3_107, r3_109, r3_113, r3_127, r3_131, r3_137, r3_139, r3_149, r3_151, r3_157, r3_163, r3_167, r3_173, r3_179, r3_181, r3_191, r3_193, r3_197, r3_199, r3_211, r3_223, r3_227, r3_229, r3_233, r3_239, r3_241, r3_251, r3_257, r3_263, r3_269, r3_271, r3_277, r3_281, r3_283, r3_293, r3_307, r3_311]
  rfl
theorem roots2 : ((prK 310).take 8).map (rootL · 2) = H0.list := by
  rw [pr_list]
  simp only [List.take_succ_cons, List.take_zero, List.map_cons, List.map_nil, r2_2, r2_3, r2_5, r2_7, r2_11, r2_13, r2_17, r2_19]
  rfl
end Go.Proofs.YtonkmffipjdhkaaDoor

namespace Go.Proofs.YtonkmffipjdhkaaDoor
open Go.RowKit

def padP (s : ByteArray) : ByteArray := s ++ ⟨(padB s.size).toArray⟩
theorem padP_size (s : ByteArray) : (padP s).size = s.size + padZ s.size + 9 := by
  have h : (⟨(padB s.size).toArray⟩ : ByteArray).size = (padB s.size).length := by simp only [ByteArray.size, List.size_toArray]
  unfold padP
  rw [ByteArray.size_append, h, padB_length]
  omega
theorem padP_64 (s : ByteArray) : (padP s).size % 64 = 0 := by
  have h1 := padP_size s
  have h2 := padZ_done s.size (padZ s.size) (Nat.le_refl _)
  omega
theorem padP_last (s : ByteArray) : (padP s).extract (64 * (s.size / 64)) (padP s).size = lastB s s.size := by
  apply ba_eq
  have hle : 64 * (s.size / 64) ≤ s.data.toList.length := by rw [ba_len]; omega
  unfold padP lastB
  rw [rest_list, app_list, app_list, rest_list, fullN_mul, List.drop_append_of_le_length hle]
theorem sha_padded (s : ByteArray) : absK H0 (padP s) ((padP s).size / 64) = finS H0 s s.size := by
  have hl : (lastB s s.size).size = s.size % 64 + padZ s.size + 9 := by
    rw [← padP_last, ByteArray.size_extract]
    have := padP_size s
    omega
  have hd : (padP s).size / 64 = s.size / 64 + (lastB s s.size).size / 64 := by
    have := padP_size s
    omega
  unfold finS
  rw [hd, absK_add, padP_last, fin1_eq]
  congr 1
  exact absK_congr H0 _ fun i hi => byN_app s _ i (by omega)
theorem byN_mid (s : ByteArray) (a b i : Nat) (hi : i < b - a) : byN (s.extract a b) i = byN s (a + i) := by
  unfold byN
  rw [ext_list, List.getD, List.getD, List.getElem?_take_of_lt hi, List.getElem?_drop]
theorem absK_block (h : St) (s : ByteArray) (k : Nat) : absK h s (k + 1) = mixS (absK h s k) (wk (s.extract (64 * k) (64 * k + 64)) 64) := by
  rw [absK, wk_congr (s := s.extract (64 * k) s.size) (t := s.extract (64 * k) (64 * k + 64))]
  intro j hj
  rw [byN_rest, byN_mid _ _ _ _ (by omega)]
theorem pr_le : ∀ p ∈ prK 310, p ≤ 1000 := by rw [pr_list]; decide
end Go.Proofs.YtonkmffipjdhkaaDoor
