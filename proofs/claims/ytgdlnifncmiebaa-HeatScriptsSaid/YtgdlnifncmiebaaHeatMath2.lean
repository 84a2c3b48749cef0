/-
  What the hottest keys are: plain data.
-/
import Derived.Test.YtgdlnifncmiebaaHeatMath
namespace Go.Proofs.Ytgdlnifncmiebaa

theorem item_mem {l : List MkD} {now : Int} {x : ItD} : x ∈ itemsM l now ↔ ∃ y ∈ l, itM now y = some x := by unfold itemsM; exact List.mem_filterMap
theorem it_some {now : Int} {y : MkD} {x : ItD} (h : itM now y = some x) : x = (y.1, worthOf y.2.1 y.2.2 now) ∧ 0 < worthOf y.2.1 y.2.2 now := by
  unfold itM at h
  split at h
  · next hp => exact ⟨(Option.some.inj h).symm, hp⟩
  · cases h
theorem item_value {l : List MkD} (hd : NoDup l) {now : Int} {x : ItD} (h : x ∈ itemsM l now) : valueM l x.1 now = x.2 ∧ 0 < x.2 := by
  obtain ⟨y, hy, he⟩ := item_mem.1 h
  obtain ⟨rfl, hp⟩ := it_some he
  refine ⟨?_, hp⟩
  unfold valueM
  rw [show ((y.1, worthOf y.2.1 y.2.2 now) : ItD).1 = y.1 from rfl, find_of_mem hd hy]
theorem value_item {l : List MkD} {now : Int} {k : ByteArray} (h : 0 < valueM l k now) : (k, valueM l k now) ∈ itemsM l now := by
  unfold valueM at h ⊢
  cases e : findM l k with
  | none => rw [e] at h; exact absurd h (by show ¬ (0 : Int) < 0; omega)
  | some m =>
    rw [e] at h
    refine item_mem.2 ⟨(k, m), find_mem e, ?_⟩
    show (if 0 < worthOf m.1 m.2 now then some (k, worthOf m.1 m.2 now) else none) = _
    rw [if_pos h]
theorem items_nodup {now : Int} : ∀ {l : List MkD}, NoDup l → (itemsM l now).Pairwise (fun x y => x.1 ≠ y.1)
  | [], _ => List.Pairwise.nil
  | y :: r, hd => by
    obtain ⟨h1, h2⟩ := List.pairwise_cons.1 hd
    have ih := items_nodup (now := now) h2
    unfold itemsM at ih ⊢
    rw [List.filterMap_cons]
    cases e : itM now y with
    | none => exact ih
    | some x =>
      refine List.pairwise_cons.2 ⟨fun z hz => ?_, ih⟩
      obtain ⟨y2, hy2, he2⟩ := List.mem_filterMap.1 hz
      obtain ⟨rfl, _⟩ := it_some e
      obtain ⟨rfl, _⟩ := it_some he2
      exact h1 y2 hy2
section
variable {M : List MkD} (hd : NoDup M) (now n : Int)
theorem hot_len : (hotM M now n).length ≤ n.toNat := by
  unfold hotM
  rw [List.length_map, List.length_take]
  exact Nat.min_le_left _ _
theorem hot_at {i : Nat} (hi : i < (hotM M now n).length) : ∃ w, (sortI (itemsM M now))[i]? = some ((hotM M now n)[i], w) ∧ ((hotM M now n)[i], w) ∈ itemsM M now := by
  have h1 : (hotM M now n)[i]? = some (hotM M now n)[i] := List.getElem?_eq_getElem hi
  generalize (hotM M now n)[i] = k at *
  unfold hotM at h1 hi
  rw [List.length_map, List.length_take] at hi
  rw [List.getElem?_map, List.getElem?_take_of_lt (by omega)] at h1
  obtain ⟨x, hx, rfl⟩ := Option.map_eq_some_iff.1 h1
  exact ⟨x.2, hx, (sort_perm _).mem_iff.1 (List.mem_of_getElem? hx)⟩
include hd
theorem hot_pos {i : Nat} (hi : i < (hotM M now n).length) : 1 ≤ valueM M (hotM M now n)[i] now := by
  obtain ⟨w, _, h2⟩ := hot_at now n hi
  have := item_value hd h2
  dsimp only at this
  omega
theorem hot_order {i : Nat} (hi : i + 1 < (hotM M now n).length) : valueM M (hotM M now n)[i + 1] now ≤ valueM M (hotM M now n)[i] now ∧
    (valueM M (hotM M now n)[i] now = valueM M (hotM M now n)[i + 1] now → Op.bytesLess (hotM M now n)[i].toList (hotM M now n)[i + 1].toList = true) := by
  obtain ⟨w1, g1, m1⟩ := hot_at (M := M) now n (i := i) (by omega)
  obtain ⟨w2, g2, m2⟩ := hot_at now n hi
  have v1 := (item_value hd m1).1
  have v2 := (item_value hd m2).1
  dsimp only at v1 v2
  rw [v1, v2]
  obtain ⟨l1, e1⟩ := List.getElem?_eq_some_iff.1 g1
  obtain ⟨l2, e2⟩ := List.getElem?_eq_some_iff.1 g2
  have ho := List.pairwise_iff_getElem.1 (sort_order (itemsM M now)) i (i + 1) l1 l2 (by omega)
  have hn := List.pairwise_iff_getElem.1 ((((sort_perm (itemsM M now)).pairwise_iff (fun {_ _} h => Ne.symm h)).2 (items_nodup hd))) i (i + 1) l1 l2 (by omega)
  rw [e1, e2] at ho hn
  dsimp only at hn
  unfold hotter at ho
  dsimp only at ho
  by_cases e : w2 = w1
  · rw [if_pos e] at ho
    refine ⟨by omega, fun _ => ?_⟩
    rw [bl_lt] at ho ⊢
    simp only [decide_eq_false_iff_not, decide_eq_true_eq] at ho ⊢
    have h3 := List.not_lt.1 ho
    rcases Classical.em ((hotM M now n)[i].toList < (hotM M now n)[i + 1].toList) with h4 | h4
    · exact h4
    · exact absurd (ba_ext (List.le_antisymm h3 (List.not_lt.1 h4))) hn
  · rw [if_neg e] at ho
    simp only [decide_eq_false_iff_not] at ho
    exact ⟨by omega, fun h => absurd h.symm e⟩
theorem hot_out {k : ByteArray} (hk : k ∉ hotM M now n) (hv : 0 < valueM M k now) (hn : 0 < n) : (hotM M now n).length = n.toNat ∧ ∃ h : n.toNat - 1 < (hotM M now n).length, valueM M k now ≤ valueM M (hotM M now n)[n.toNat - 1] now := by
  have hm : (k, valueM M k now) ∈ sortI (itemsM M now) := (sort_perm _).mem_iff.2 (value_item hv)
  obtain ⟨j, hj, ej⟩ := List.getElem_of_mem hm
  have hjn : n.toNat ≤ j := by
    rcases Nat.lt_or_ge j n.toNat with h | h
    · refine absurd ?_ hk
      unfold hotM
      refine List.mem_map.2 ⟨(k, valueM M k now), ?_, rfl⟩
      rw [← ej]
      exact List.mem_take_iff_getElem.2 ⟨j, by omega, rfl⟩
    · exact h
  have hl : (hotM M now n).length = n.toNat := by
    unfold hotM
    rw [List.length_map, List.length_take]
    omega
  have hi : n.toNat - 1 < (hotM M now n).length := by omega
  refine ⟨hl, hi, ?_⟩
  obtain ⟨w1, g1, m1⟩ := hot_at now n hi
  have v1 := (item_value hd m1).1
  dsimp only at v1
  rw [v1]
  obtain ⟨l1, e1⟩ := List.getElem?_eq_some_iff.1 g1
  have ho := List.pairwise_iff_getElem.1 (sort_order (itemsM M now)) (n.toNat - 1) j l1 hj (by omega)
  rw [e1, ej] at ho
  unfold hotter at ho
  dsimp only at ho
  by_cases e : valueM M k now = w1
  · omega
  · rw [if_neg e] at ho
    simp only [decide_eq_false_iff_not] at ho
    omega
end
theorem hot_key {M : List MkD} {now n : Int} {k : ByteArray} (h : k ∈ hotM M now n) : ∃ x ∈ M, x.1 = k := by
  unfold hotM at h
  obtain ⟨x, hx, rfl⟩ := List.mem_map.1 h
  obtain ⟨y, hy, he⟩ := item_mem.1 ((sort_perm _).mem_iff.1 (List.mem_of_mem_take hx))
  obtain ⟨rfl, _⟩ := it_some he
  exact ⟨y, hy, rfl⟩
def KeyOk (l : List MkD) : Prop := ∀ x ∈ l, x.1.size ≤ maxLen
theorem keyok_touch {l : List MkD} (h : KeyOk l) {k : ByteArray} (hk : k.size ≤ maxLen) (now : Int) : KeyOk (touchM l k now) := by
  intro x hx
  unfold touchM at hx
  rcases List.mem_append.1 hx with h1 | h1
  · exact h x (List.mem_filter.1 h1).1
  · rw [List.mem_singleton] at h1
    subst h1
    exact hk
theorem keyok_run : ∀ (s : List OpH) (l : List MkD), KeyOk l → OkS s → KeyOk (runH l s)
  | [], _, h, _ => h
  | x :: r, l, h, hs => keyok_run r (touchM l x.2.1 x.2.2.1) (keyok_touch h (hs x (by simp)).1 _) (fun y hy => hs y (List.mem_cons_of_mem _ hy))
theorem hot_size {M : List MkD} (h : KeyOk M) {now n : Int} {k : ByteArray} (hk : k ∈ hotM M now n) : k.size ≤ maxLen := by
  obtain ⟨x, hx, rfl⟩ := hot_key hk
  exact h x hx
theorem nodup_run : ∀ (s : List OpH) (l : List MkD), NoDup l → NoDup (runH l s)
  | [], _, h => h
  | x :: r, l, h => nodup_run r (touchM l x.2.1 x.2.2.1) (h.touch _ _)
end Go.Proofs.Ytgdlnifncmiebaa
