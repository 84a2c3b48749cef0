/-
  Parts make no difference: what a writer holds, told by the text that it took.
-/
import Derived.Test.YtfnihldcnjnpbaaDoorShaPlain
namespace Go.Proofs.YtfnihldcnjnpbaaDoor

theorem byN_list (s : ByteArray) (i : Nat) : byN s i = (s.data.toList.getD i 0).toNat := rfl
theorem byN_rest (s : ByteArray) (a i : Nat) : byN (s.extract a s.size) i = byN s (a + i) := by
  unfold byN
  rw [rest_list, List.getD, List.getD, List.getElem?_drop]
theorem byN_front (s : ByteArray) (n i : Nat) (hi : i < n) : byN (s.extract 0 n) i = byN s i := by
  unfold byN
  rw [ext_list, List.drop_zero, Nat.sub_zero, List.getD, List.getD, List.getElem?_take_of_lt hi]
theorem app_list (a b : ByteArray) : (a ++ b).data.toList = a.data.toList ++ b.data.toList := by simp [ByteArray.data_append]
theorem byN_app (a b : ByteArray) (i : Nat) (hi : i < a.size) : byN (a ++ b) i = byN a i := by
  unfold byN
  rw [app_list, List.getD, List.getD, List.getElem?_append_left (by rw [ba_len]; exact hi)]

theorem be4_congr {s t : ByteArray} {i : Nat} (h : ∀ j, j < 64 → byN s j = byN t j) (hi : i + 3 < 64) : be4 s i = be4 t i := by
  unfold be4
  rw [h i (by omega), h (i + 1) (by omega), h (i + 2) (by omega), h (i + 3) (by omega)]
theorem wk_congr {s t : ByteArray} (h : ∀ j, j < 64 → byN s j = byN t j) : ∀ k, wk s k = wk t k
  | 0 => rfl
  | k + 1 => by
    rw [wk, wk, wk_congr h k]
    unfold wnext
    by_cases hk : k < 16
    · rw [if_pos hk, if_pos hk, be4_congr h (by omega)]
    · rw [if_neg hk, if_neg hk]
theorem absK_congr (h : St) {s t : ByteArray} : ∀ k, (∀ i, i < 64 * k → byN s i = byN t i) → absK h s k = absK h t k
  | 0, _ => rfl
  | k + 1, he => by
    rw [absK, absK, absK_congr h k (fun i hi => he i (by omega)), wk_congr (s := s.extract (64 * k) s.size) (t := t.extract (64 * k) t.size)]
    intro j hj
    rw [byN_rest, byN_rest, he _ (by omega)]
theorem absK_add (h : St) (s : ByteArray) (a : Nat) : ∀ b, absK h s (a + b) = absK (absK h s a) (s.extract (64 * a) s.size) b
  | 0 => rfl
  | b + 1 => by
    rw [← Nat.add_assoc, absK, absK, absK_add h s a b, rest_rest, Nat.mul_add]

theorem front_size (s : ByteArray) : (s.extract 0 (fullN s)).size = fullN s := by
  rw [ByteArray.size_extract]
  have : fullN s ≤ s.size := Nat.sub_le _ _
  omega
theorem fullN_div (s : ByteArray) : fullN s / 64 = s.size / 64 := by unfold fullN; omega
theorem fullN_mul (s : ByteArray) : fullN s = 64 * (s.size / 64) := by unfold fullN; omega
theorem fin1_eq (h : St) (s : ByteArray) : fin1 h s = absK h s (s.size / 64) := by
  unfold fin1
  rw [front_size, fullN_div]
  exact absK_congr h _ fun i hi => byN_front s _ i (by rw [fullN_mul]; exact hi)

/-- What a writer that took the text t holds. -/
structure WrOK (t : ByteArray) (st : St) (r : ByteArray) (n : Nat) : Prop where
  en : n = t.size
  er : r = t.extract (fullN t) t.size
  es : 64 ≤ n → st = absK H0 t (t.size / 64)

theorem WrOK.nil : WrOK ⟨#[]⟩ ⟨0, 0, 0, 0, 0, 0, 0, 0⟩ ⟨#[]⟩ 0 := ⟨rfl, rfl, fun h => by omega⟩

theorem WrOK.now {t r : ByteArray} {st : St} {n : Nat} (h : WrOK t st r n) : nowS st n = absK H0 t (t.size / 64) := by
  unfold nowS
  split
  · have : t.size / 64 = 0 := by have := h.en; omega
    rw [this]
    rfl
  · exact h.es (by omega)

theorem WrOK.rsize {t r : ByteArray} {st : St} {n : Nat} (h : WrOK t st r n) : r.size = t.size % 64 := by
  rw [h.er, ByteArray.size_extract]
  unfold fullN
  omega

theorem WrOK.sum {t r : ByteArray} {st : St} {n : Nat} (h : WrOK t st r n) : sumW st r n = sha t := by
  have hr := h.rsize
  have h0 : fullN r = 0 := by rw [fullN_mul]; omega
  have h1 : fin1 (nowS st n) r = fin1 H0 t := by
    rw [fin1_eq, fin1_eq, h.now]
    have : r.size / 64 = 0 := by omega
    rw [this]
    rfl
  have h2 : lastB r n = lastB t t.size := by
    unfold lastB
    rw [h0, rest_zero, ← h.er, h.en]
  unfold sumW sha finS
  rw [h1, h2]

theorem WrOK.split {t r : ByteArray} {st : St} {n : Nat} (h : WrOK t st r n) (s : ByteArray) : (t ++ s).extract (64 * (t.size / 64)) (t ++ s).size = r ++ s := by
  apply ba_eq
  have hle : 64 * (t.size / 64) ≤ t.data.toList.length := by rw [ba_len]; omega
  rw [rest_list, app_list, app_list, h.er, rest_list, fullN_mul, List.drop_append_of_le_length hle]

theorem WrOK.write {t r : ByteArray} {st : St} {n : Nat} (h : WrOK t st r n) (s : ByteArray) : WrOK (t ++ s) (fin1 (nowS st n) (r ++ s)) (wrR (r ++ s)) (n + s.size) := by
  have hr := h.rsize
  have hz : (t ++ s).size = t.size + s.size := ByteArray.size_append
  have hz2 : (r ++ s).size = r.size + s.size := ByteArray.size_append
  refine ⟨by rw [hz, h.en], ?_, fun _ => ?_⟩
  · unfold wrR
    rw [← h.split s, rest_rest]
    congr 1
    rw [fullN_mul, fullN_mul, h.split s]
    omega
  · have hd : (t ++ s).size / 64 = t.size / 64 + (r ++ s).size / 64 := by omega
    rw [fin1_eq, hd, absK_add, h.split s, h.now]
    congr 1
    exact absK_congr H0 _ fun i hi => (byN_app t s i (by omega)).symm
end Go.Proofs.YtfnihldcnjnpbaaDoor
